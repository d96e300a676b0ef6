package table

import (
	"math/rand/v2"
	"slices"
	"strings"
	"testing"
)

func TestP8_1May(t *testing.T) {
	for _, x := range []struct {
		names []string
		want  bool
	}{
		{nil, true}, {[]string{}, true}, {[]string{"a"}, true}, {[]string{"a", "b"}, true}, {[]string{"a", "b", "c"}, true}, {[]string{"\x00"}, true},
		// Names are held against each other byte by byte, and one that goes on is above the one that ends.
		{[]string{"a", "aa"}, true}, {[]string{"a", "a\x00"}, true}, {[]string{"B", "a"}, true}, {[]string{"10", "9"}, true}, {[]string{"a b", "a/b"}, true},
		{[]string{"\x7f", "\x80", "\xff"}, true}, {[]string{"z", "\xc3\xa9"}, true}, {[]string{"\xe2", "\xe2\x82\xac", "\xf0"}, true},
		{[]string{""}, false}, {[]string{"", "a"}, false}, {[]string{"a", ""}, false}, {[]string{"a", "", "b"}, false}, {[]string{"", ""}, false},
		{[]string{"a", "a"}, false}, {[]string{"b", "a"}, false}, {[]string{"aa", "a"}, false}, {[]string{"a", "B"}, false}, {[]string{"9", "10"}, false},
		{[]string{"a", "c", "b"}, false}, {[]string{"b", "a", "c"}, false}, {[]string{"a", "b", "b"}, false}, {[]string{"a", "b", "a"}, false},
		{[]string{"\xff", "\x80"}, false}, {[]string{"\xc3\xa9", "z"}, false},
	} {
		var l []File
		for _, name := range x.names {
			l = append(l, File{Name: name, Data: name + name})
		}
		if got := May(l); got != x.want {
			t.Errorf("%q: %v", x.names, got)
		}
	}
}

func TestP8_1Get(t *testing.T) {
	files := []File{{"a", "1"}, {"ab", ""}, {"b", "2\n"}, {"\xff", "\x00"}}
	for _, x := range []struct {
		t          []File
		name, want string
		is         bool
	}{
		{files, "a", "1", true}, {files, "ab", "", true}, {files, "b", "2\n", true}, {files, "\xff", "\x00", true},
		{files, "", "", false}, {files, "aa", "", false}, {files, "A", "", false}, {files, "c", "", false}, {files, "\xff\xff", "", false}, {files, "a\x00", "", false},
		{nil, "a", "", false}, {nil, "", "", false}, {[]File{}, "a", "", false},
		// Lists that are no tables have their first one, too, wherever it stands.
		{[]File{{"a", "1"}, {"a", "2"}}, "a", "1", true}, {[]File{{"b", "1"}, {"a", "2"}, {"a", "3"}}, "a", "2", true},
		{[]File{{"c", "1"}, {"b", "2"}, {"a", "3"}}, "c", "1", true}, {[]File{{"c", "1"}, {"b", "2"}, {"a", "3"}}, "a", "3", true},
		{[]File{{"c", "1"}, {"b", "2"}, {"a", "3"}}, "d", "", false}, {[]File{{"a", "1"}, {"", "2"}, {"", "3"}}, "", "2", true},
	} {
		if got, is := Get(x.t, x.name); got != x.want || is != x.is {
			t.Errorf("%q in %q: %q %v", x.name, x.t, got, is)
		}
	}
}

func TestP8_2Put(t *testing.T) {
	two := []File{{"b", "1"}, {"d", "2"}}
	for _, x := range []struct {
		t          []File
		name, data string
		want       []File
	}{
		{nil, "a", "x", []File{{"a", "x"}}}, {nil, "a", "", []File{{"a", ""}}}, {[]File{}, "a", "x", []File{{"a", "x"}}},
		{two, "b", "x", []File{{"b", "x"}, {"d", "2"}}}, {two, "d", "x", []File{{"b", "1"}, {"d", "x"}}}, {two, "d", "", []File{{"b", "1"}, {"d", ""}}},
		{two, "a", "x", []File{{"a", "x"}, {"b", "1"}, {"d", "2"}}}, {two, "c", "x", []File{{"b", "1"}, {"c", "x"}, {"d", "2"}}},
		{two, "e", "x", []File{{"b", "1"}, {"d", "2"}, {"e", "x"}}}, {two, "bb", "", []File{{"b", "1"}, {"bb", ""}, {"d", "2"}}},
		{two, "\x00", "x", []File{{"\x00", "x"}, {"b", "1"}, {"d", "2"}}}, {two, "\xff", "x", []File{{"b", "1"}, {"d", "2"}, {"\xff", "x"}}},
		{two, "D", "x", []File{{"D", "x"}, {"b", "1"}, {"d", "2"}}},
		{two, "", "x", two}, {nil, "", "x", nil}, {[]File{}, "", "", nil},
	} {
		if got := Put(x.t, x.name, x.data); !slices.Equal(got, x.want) {
			t.Errorf("%q %q in %q: %q", x.name, x.data, x.t, got)
		}
	}
}

func TestP8_2Add(t *testing.T) {
	two := []File{{"b", "1"}, {"d", "2\n"}}
	for _, x := range []struct {
		t          []File
		name, data string
		want       []File
	}{
		{nil, "a", "x", []File{{"a", "x"}}}, {nil, "a", "", []File{{"a", ""}}}, {two, "b", "x", []File{{"b", "1x"}, {"d", "2\n"}}},
		{two, "d", "3\n", []File{{"b", "1"}, {"d", "2\n3\n"}}}, {two, "d", "", two}, {two, "a", "x", []File{{"a", "x"}, {"b", "1"}, {"d", "2\n"}}},
		{two, "c", "", []File{{"b", "1"}, {"c", ""}, {"d", "2\n"}}}, {two, "e", "\x00\xff", []File{{"b", "1"}, {"d", "2\n"}, {"e", "\x00\xff"}}},
		{two, "", "x", two}, {nil, "", "x", nil},
	} {
		if got := Add(x.t, x.name, x.data); !slices.Equal(got, x.want) {
			t.Errorf("%q %q in %q: %q", x.name, x.data, x.t, got)
		}
	}
}

func TestP8_2AddAndAdd(t *testing.T) {
	var files []File
	for range 3 {
		for _, name := range []string{"c", "a", "b"} {
			files = Add(files, name, name+"\n")
		}
	}
	if want := []File{{"a", "a\na\na\n"}, {"b", "b\nb\nb\n"}, {"c", "c\nc\nc\n"}}; !slices.Equal(files, want) {
		t.Errorf("%q", files)
	}
}

// noTables are lists of files whose names do not rise.
func noTables() [][]File {
	return [][]File{{{"", "1"}}, {{"", "1"}, {"", "2"}}, {{"b", "1"}, {"a", "2"}}, {{"a", "1"}, {"a", "2"}}, {{"c", "1"}, {"", "2"}, {"b", "3"}, {"a", "4"}}}
}

func TestP8_2OtherTablesEnd(t *testing.T) {
	for _, files := range noTables() {
		was := slices.Clone(files)
		for _, name := range []string{"", "a", "b", "bb", "c", "d"} {
			Put(files, name, "x")
			Add(files, name, "x")
		}
		if !slices.Equal(files, was) {
			t.Errorf("%q became %q", was, files)
		}
	}
}

// overwrite writes over all of l, and all that its array has behind it.
func overwrite(l []File) {
	l = l[:cap(l)]
	for i := range l {
		l[i] = File{"?", "?"}
	}
}

func TestP8_2TablesAreNew(t *testing.T) {
	for _, name := range []string{"", "a", "b", "c", "d", "e"} {
		for _, call := range []func([]File, string, string) []File{Put, Add} {
			room := []File{{"b", "1"}, {"d", "2"}, {"x", "3"}, {"y", "4"}}
			was := slices.Clone(room)
			first, second := call(room[:2], name, "n"), call(room[:2], name, "n")
			overwrite(first)
			if !slices.Equal(room, was) || !slices.Equal(second, call(was[:2], name, "n")) {
				t.Errorf("%q: %q %q", name, room, second)
			}
		}
	}
}

func TestP8_3Split(t *testing.T) {
	for _, x := range []struct {
		s    string
		want []Line
	}{
		{"", nil}, {"a\nb", []Line{{"a", true}, {"b", false}}}, {"a", []Line{{"a", false}}}, {"a\n", []Line{{"a", true}}}, {"a\nb\n", []Line{{"a", true}, {"b", true}}},
		{"\n", []Line{{"", true}}}, {"\n\n", []Line{{"", true}, {"", true}}}, {"\na", []Line{{"", true}, {"a", false}}}, {"a\n\nb", []Line{{"a", true}, {"", true}, {"b", false}}},
		// Only a byte 10 ends a line.
		{"a\rb\r\nc\x00\v\f\u0085\u2028", []Line{{"a\rb\r", true}, {"c\x00\v\f\u0085\u2028", false}}}, {"\xff\n\x8a\n ", []Line{{"\xff", true}, {"\x8a", true}, {" ", false}}},
	} {
		if got := Split(x.s); !slices.Equal(got, x.want) {
			t.Errorf("%q: %v", x.s, got)
		}
	}
}

func TestP8_3Join(t *testing.T) {
	for _, x := range []struct {
		l    []Line
		want string
	}{
		{nil, ""}, {[]Line{}, ""}, {[]Line{{"a", true}, {"b", false}}, "a\nb"}, {[]Line{{"a", true}, {"b", true}}, "a\nb\n"}, {[]Line{{"", true}}, "\n"},
		{[]Line{{"", false}}, ""}, {[]Line{{"", false}, {"", true}, {"", false}}, "\n"},
		// Also lines that no Split tells.
		{[]Line{{"a", false}, {"b", false}, {"c", true}}, "abc\n"}, {[]Line{{"a\nb", true}, {"\n", false}, {"\x00\xff", true}}, "a\nb\n\n\x00\xff\n"},
	} {
		if got := Join(x.l); got != x.want {
			t.Errorf("%v: %q", x.l, got)
		}
	}
}

// texts are all of the letters a, b and byte 10, up to n of them.
func texts(n int) []string {
	all := []string{""}
	for from, length := 0, 0; length < n; length++ {
		to := len(all)
		for _, s := range all[from:to] {
			all = append(all, s+"a", s+"b", s+"\n")
		}
		from = to
	}
	return all
}

// splits tells whether l is what the chapter calls the lines of s.
func splits(l []Line, s string) bool {
	ends := strings.Count(s, "\n")
	for i, x := range l {
		if strings.Contains(x.Text, "\n") || x.End != (i < ends) || !x.End && x.Text == "" {
			return false
		}
	}
	left := s != "" && s[len(s)-1] != '\n'
	return len(l) == ends || left && len(l) == ends+1
}

func TestP8_4JoinOfSplit(t *testing.T) {
	all := texts(7)
	r := rand.New(rand.NewPCG(8, 4))
	for range 200 {
		b := make([]byte, r.IntN(601))
		for i := range b {
			b[i] = byte(r.IntN(1 << r.IntN(9)))
		}
		all = append(all, string(b))
	}
	all = append(all, strings.Repeat("\n", 600), strings.Repeat("a", 600), strings.Repeat("ab\n", 100000))
	for _, s := range all {
		l := Split(s)
		if got := Join(l); got != s || !splits(l, s) {
			t.Fatalf("%q: %v, %q", s, l, got)
		}
	}
}

func TestP8_4SplitIsNew(t *testing.T) {
	first := Split("a\nb")
	for i := range first {
		first[i] = Line{}
	}
	if got := Split("a\nb"); !slices.Equal(got, []Line{{"a", true}, {"b", false}}) {
		t.Error(got)
	}
	l := []Line{{"a", true}, {"b", false}}
	Join(l)
	if !slices.Equal(l, []Line{{"a", true}, {"b", false}}) {
		t.Error(l)
	}
}

// isPut tells whether now is what was became when the file of that name got that data.
func isPut(was, now []File, name, data string) bool {
	kept := map[string]string{}
	for _, f := range was {
		kept[f.Name] = f.Data
	}
	if name != "" {
		kept[name] = data
	}
	for _, f := range now {
		if d, is := kept[f.Name]; !is || d != f.Data {
			return false
		}
	}
	return May(now) && len(now) == len(kept)
}

func TestP8_4OtherFilesStay(t *testing.T) {
	r := rand.New(rand.NewPCG(4, 8))
	names := append(texts(3), "\x00", "\xff", "A", "aaaa")
	for range 50 {
		var files []File
		for range 80 {
			name, data := names[r.IntN(len(names))], names[r.IntN(len(names))]
			old, _ := Get(files, name)
			put, add := Put(files, name, data), Add(files, name, data)
			if !isPut(files, put, name, data) || !isPut(files, add, name, old+data) {
				t.Fatalf("%q %q in %q: %q %q", name, data, files, put, add)
			}
			files = put
			if r.IntN(2) == 0 {
				files = add
			}
		}
	}
}
