package trans

import (
	"fmt"
	"math"
	"math/rand/v2"
	"slices"
	"strings"
	"testing"

	"calender/api"
)

// allBytes is each byte once.
func allBytes() string {
	b := make([]byte, 256)
	for i := range b {
		b[i] = byte(i)
	}
	return string(b)
}

// rows are all texts of parts, up to n of them.
func rows(parts []string, n int) []string {
	all := []string{""}
	for from, length := 0, 0; length < n; length++ {
		to := len(all)
		for _, s := range all[from:to] {
			for _, part := range parts {
				all = append(all, s+part)
			}
		}
		from = to
	}
	return all
}

// textsOf are all texts of letters, up to n of them.
func textsOf(letters string, n int) []string { return rows(strings.Split(letters, ""), n) }

// byChance is a text of up to n letters.
func byChance(r *rand.Rand, letters string, n int) string {
	b := make([]byte, r.IntN(n+1))
	for i := range b {
		b[i] = letters[r.IntN(len(letters))]
	}
	return string(b)
}

func TestP10_1Same(t *testing.T) {
	m := Same()
	for b := range 256 {
		if m[b] != byte(b) {
			t.Errorf("%d: %d", b, m[b])
		}
	}
	m['a'] = 'b'
	if now := Same(); now['a'] != 'a' {
		t.Error(now['a'])
	}
}

func TestP10_1Make(t *testing.T) {
	for _, x := range []struct{ from, to, s, want string }{
		{"", "", "abc", "abc"}, {"a", "b", "abcab", "bbcbb"}, {"abc", "bca", "aabbcc", "bbccaa"}, {"ab", "ba", "abba", "baab"}, {"abc", "xxx", "abcd", "xxxd"}, {"a", "a", "ab", "ab"},
		{"\n\x00", "\x00\xff", "a\n\x00\xff", "a\x00\xff\xff"}, {"\xc3\xa9", "\xc3\xa8", "\xc3\xa9", "\xc3\xa8"}, {`\/&`, `123`, `\/&n`, "123n"},
		// A byte that is twice in to only is all right.
		{"ba", "aa", "ab", "aa"}, {"az", "zz", "az", "zz"},
	} {
		m, e := Make(x.from, x.to)
		if e != api.OK {
			t.Errorf("%q %q: %v", x.from, x.to, e)
		}
		if got := Apply(m, x.s); got != x.want {
			t.Errorf("%q %q of %q: %q", x.from, x.to, x.s, got)
		}
		for b := range 256 {
			want := byte(b)
			if i := strings.IndexByte(x.from, want); i >= 0 {
				want = x.to[i]
			}
			if m[b] != want {
				t.Errorf("%q %q: %d is %d", x.from, x.to, b, m[b])
			}
		}
	}
	all := []byte(allBytes())
	slices.Reverse(all)
	m, e := Make(allBytes(), string(all))
	for b := range 256 {
		if m[b] != byte(255-b) || e != api.OK {
			t.Errorf("%d: %d %v", b, m[b], e)
		}
	}
}

func TestP10_1NoLists(t *testing.T) {
	for _, x := range []struct{ from, to string }{
		{"a", ""}, {"", "a"}, {"ab", "a"}, {"a", "ab"}, {"abc", "ab"}, {"aa", "bb"}, {"aa", "aa"}, {"aba", "xyz"}, {"aba", "xyx"}, {"abb", "xyz"}, {"abca", "wxyz"}, {"\x00\x00", "ab"}, {"\xff\xff", "ab"},
		{"aa", "a"}, {"aa", ""}, {"é", "e"}, {allBytes() + "a", allBytes() + "a"}, {allBytes(), allBytes()[1:]}, {strings.Repeat("a", 600), strings.Repeat("b", 600)},
	} {
		if m, e := Make(x.from, x.to); m != (Map{}) || e != api.ErrTrans {
			t.Errorf("%q %q: %v %v", x.from, x.to, m, e)
		}
	}
}

func TestP10_1Apply(t *testing.T) {
	if got := Apply(Same(), allBytes()); got != allBytes() {
		t.Errorf("%q", got)
	}
	if got := Apply(Map{}, "abc"); got != "\x00\x00\x00" {
		t.Errorf("%q", got)
	}
	var next Map
	for b := range next {
		next[b] = byte(b) + 1
	}
	// What a byte became is not looked up once more.
	for _, x := range []struct{ s, want string }{{"", ""}, {"a", "b"}, {"abc", "bcd"}, {"\xff\x00\n", "\x00\x01\v"}, {strings.Repeat("ab", 300), strings.Repeat("bc", 300)}} {
		if got := Apply(next, x.s); got != x.want {
			t.Errorf("%q: %q", x.s, got)
		}
	}
}

func TestP10_2Parse(t *testing.T) {
	for _, x := range []struct{ s, want string }{
		{"", ""}, {"a", "a"}, {"abc", "abc"}, {`\n`, "\n"}, {`\\`, `\`}, {`\/`, "/"}, {"/", "/"}, {"n", "n"}, {`a\nb\\c\/d`, "a\nb\\c/d"}, {`\n\n`, "\n\n"}, {`\\\\`, `\\`},
		// A \ is taken together with what is behind it, from left to right.
		{`\\n`, `\n`}, {`\\\n`, "\\\n"}, {`\\/`, `\/`}, {`\nn`, "\nn"}, {`n\\`, `n\`},
		{"\x00\xff\t\r ", "\x00\xff\t\r "}, {"é", "é"}, {"&[]a-z.*^$", "&[]a-z.*^$"}, {strings.Repeat(`\n`, 300), strings.Repeat("\n", 300)}, {strings.Repeat("a", 600), strings.Repeat("a", 600)},
	} {
		if got, at, e := Parse(x.s); got != x.want || at != 0 || e != api.OK {
			t.Errorf("%q: %q %v %v", x.s, got, at, e)
		}
	}
}

func TestP10_2Wrong(t *testing.T) {
	for _, x := range []struct {
		s  string
		at int
	}{
		{`\`, 0}, {`ab\`, 2}, {`\\\`, 2}, {`\n\`, 2}, {`\t`, 0}, {`a\tb`, 1}, {`\&`, 0}, {`\N`, 0}, {`\ `, 0}, {`\1`, 0}, {`\0`, 0}, {`\-`, 0}, {`\]`, 0}, {"\\\x00", 0}, {"\\\xff", 0}, {`\\\a`, 2}, {`\/\a`, 2},
		{"\n", 0}, {"a\n", 1}, {"ab\ncd", 2}, {"\\\\\n", 2}, {"\\n\n", 2}, {"\\/\n", 2},
		// A byte 10 behind a \ is not told by it: it is the \ that is wrong.
		{"\\\n", 0}, {"a\\\n", 1}, {"\\\\\\\n", 2},
		// What is wrong first is told.
		{"\\z\n", 0}, {"\n\\z", 0}, {"a\nb\nc", 1}, {`a\zb\z`, 1}, {strings.Repeat("a", 599) + `\`, 599},
	} {
		if got, at, e := Parse(x.s); got != "" || at != x.at || e != api.ErrTrans {
			t.Errorf("%q: %q %v %v", x.s, got, at, e)
		}
	}
}

func TestP10_2EachByte(t *testing.T) {
	told := map[byte]string{'n': "\n", '\\': `\`, '/': "/"}
	for b := range 256 {
		one := string([]byte{byte(b)})
		want, is := told[byte(b)]
		got, at, e := Parse(`\` + one)
		if is && (got != want || e != api.OK) || !is && (got != "" || e != api.ErrTrans) || at != 0 {
			t.Errorf("\\ %d: %q %v %v", b, got, at, e)
		}
		if got, at, e := Parse("a" + one + "n"); b != '\\' && b != '\n' && (got != "a"+one+"n" || at != 0 || e != api.OK) {
			t.Errorf("%d: %q %v %v", b, got, at, e)
		}
	}
}

// naiveParse is the chapter's Parse, byte by byte.
func naiveParse(s string) (string, int, api.Errno) {
	isAhead := false
	told := ""
	for i := range len(s) {
		switch b := s[i]; {
		case isAhead && b == 'n':
			told, isAhead = told+"\n", false
		case isAhead && (b == '\\' || b == '/'):
			told, isAhead = told+string(b), false
		case isAhead:
			return "", i - 1, api.ErrTrans
		case b == '\\':
			isAhead = true
		case b == '\n':
			return "", i, api.ErrTrans
		default:
			told += s[i : i+1]
		}
	}
	if isAhead {
		return "", len(s) - 1, api.ErrTrans
	}
	return told, 0, api.OK
}

func TestP10_2AllShortOnes(t *testing.T) {
	for _, s := range textsOf("\\/n\na ", 6) {
		got, at, e := Parse(s)
		if want, wantAt, wantE := naiveParse(s); got != want || at != wantAt || e != wantE {
			t.Fatalf("%q: %q %v %v, not %q %v %v", s, got, at, e, want, wantAt, wantE)
		}
		if same, at, e := Parse(Print(s)); same != s || at != 0 || e != api.OK {
			t.Fatalf("%q: %q %v %v", s, same, at, e)
		}
	}
}

func TestP10_2Print(t *testing.T) {
	for _, x := range []struct{ s, want string }{
		{"", ""}, {"abc", "abc"}, {"\n", `\n`}, {`\`, `\\`}, {"/", "/"}, {"n", "n"}, {`\n`, `\\n`}, {"\\\n", `\\\n`}, {"\n\\", `\n\\`}, {"a\nb\\c/d", `a\nb\\c/d`}, {"\n\n\\\\", `\n\n\\\\`}, {"é\x00\xff\t\r&", "é\x00\xff\t\r&"},
	} {
		if got := Print(x.s); got != x.want {
			t.Errorf("%q: %q", x.s, got)
		}
	}
	for b := range 256 {
		one := string([]byte{byte(b)})
		if got := Print(one); b != '\n' && b != '\\' && got != one {
			t.Errorf("%d: %q", b, got)
		}
	}
	if same, at, e := Parse(Print(allBytes())); same != allBytes() || at != 0 || e != api.OK {
		t.Errorf("%q %v %v", same, at, e)
	}
}

func TestP10_3Pieces(t *testing.T) {
	named := map[int]string{7: `\a`, 8: `\b`, 9: `\t`, 10: `\n`, 11: `\v`, 12: `\f`, 13: `\r`, '\\': `\\`}
	for b := range 256 {
		want, is := named[b]
		if !is {
			want = string([]byte{byte(b)})
			if b < 32 || b > 126 {
				want = fmt.Sprintf(`\%03o`, b)
			}
		}
		if got := List(string([]byte{byte(b)}), 0); got != want+"$\n" {
			t.Errorf("%d: %q", b, got)
		}
	}
}

func TestP10_3List(t *testing.T) {
	for _, x := range []struct {
		s     string
		width int
		want  string
	}{
		{"", 0, "$\n"}, {"", 1, "$\n"}, {"", 2, "$\n"}, {"", 70, "$\n"}, {"abc", 0, "abc$\n"}, {"a\t\xc8", 0, `a\t\310$` + "\n"}, {"$", 0, "$$\n"}, {"\n", 0, `\n$` + "\n"}, {`\n`, 0, `\\n$` + "\n"},
		{"\x00\x06\x0e\x1f ~\x7f\x80\xff", 0, `\000\006\016\037 ~\177\200\377$` + "\n"}, {"é", 0, `\303\251$` + "\n"}, {`"'/&`, 0, `"'/&$` + "\n"},
		// Lines are ended by widths of 2 or more only.
		{"abc", 1, "abc$\n"}, {"abc", -1, "abc$\n"}, {"abc", -70, "abc$\n"}, {"abc", math.MinInt, "abc$\n"}, {"abc", math.MaxInt, "abc$\n"}, {"abc", 2, "a\\\nb\\\nc$\n"},
		// A line has width less 1 bytes, without the \ at its end.
		{"abc", 3, "ab\\\nc$\n"}, {"abc", 4, "abc$\n"}, {"abcd", 4, "abc\\\nd$\n"}, {"abcdef", 4, "abc\\\ndef$\n"}, {"abcdefg", 4, "abc\\\ndef\\\ng$\n"}, {"abcdef", 7, "abcdef$\n"}, {"abcdefg", 7, "abcdef\\\ng$\n"},
		// The end is no piece: it makes no line of its own.
		{"ab", 3, "ab$\n"}, {"a", 2, "a$\n"}, {"\x01", 5, `\001$` + "\n"},
		// A piece is not torn, and stands alone in a line that is too short for it.
		{"\x01\x02", 2, `\001\` + "\n" + `\002$` + "\n"}, {"a\x01b", 2, `a\` + "\n" + `\001\` + "\n" + "b$\n"}, {"\x01a", 4, `\001\` + "\n" + "a$\n"}, {"\x01a", 5, `\001\` + "\n" + "a$\n"}, {"\x01a", 6, `\001a$` + "\n"},
		{"ab\tc", 4, `ab\` + "\n" + `\tc$` + "\n"}, {"ab\tc", 5, `ab\t\` + "\n" + "c$\n"}, {`a\b`, 3, `a\` + "\n" + `\\\` + "\n" + "b$\n"}, {"\n\n", 3, `\n\` + "\n" + `\n$` + "\n"}, {"\n\n", 5, `\n\n$` + "\n"},
		{strings.Repeat("a", 70), 70, strings.Repeat("a", 69) + "\\\na$\n"}, {strings.Repeat("a", 69), 70, strings.Repeat("a", 69) + "$\n"}, {strings.Repeat("\xff", 18), 70, strings.Repeat(`\377`, 17) + "\\\n" + `\377$` + "\n"},
		{strings.Repeat("a", 600), 600, strings.Repeat("a", 599) + "\\\na$\n"}, {strings.Repeat("a", 600), 601, strings.Repeat("a", 600) + "$\n"},
	} {
		if got := List(x.s, x.width); got != x.want {
			t.Errorf("%q %v: %q", x.s, x.width, got)
		}
	}
}

// naiveList is the chapter's List, of the pieces of s.
func naiveList(s string, width int) string {
	line, told := "", ""
	for i := range len(s) {
		b := s[i]
		piece := s[i : i+1]
		if at := strings.IndexByte("\a\b\t\n\v\f\r\\", b); at >= 0 {
			piece = `\` + `abtnvfr\`[at:at+1]
		} else if b < ' ' || b > '~' {
			piece = fmt.Sprintf(`\%03o`, b)
		}
		if width > 1 && line != "" && len(line+piece) > width-1 {
			told, line = told+line+"\\\n", ""
		}
		line += piece
	}
	return told + line + "$\n"
}

func TestP10_3AllShortOnes(t *testing.T) {
	for _, s := range textsOf("a\n\\$\x01\xff", 5) {
		for width := -1; width <= 14; width++ {
			if got, want := List(s, width), naiveList(s, width); got != want {
				t.Fatalf("%q %v: %q, not %q", s, width, got, want)
			}
		}
	}
}

func TestP10_4Back(t *testing.T) {
	for _, x := range []struct{ s, want string }{
		{"$\n", ""}, {"abc$\n", "abc"}, {`a\t\310$` + "\n", "a\t\xc8"}, {"$$\n", "$"}, {"$$$\n", "$$"}, {`\n$` + "\n", "\n"}, {`\\n$` + "\n", `\n`}, {`\\\n$` + "\n", "\\\n"}, {`\\$` + "\n", `\`}, {`\0001$` + "\n", "\x001"},
		{"a\\\nb\\\nc$\n", "abc"}, {"ab\\\nc$\n", "abc"}, {"a\\\nb$\n", "ab"}, {`\001\` + "\n" + `\002$` + "\n", "\x01\x02"}, {`ab\` + "\n" + `\tc$` + "\n", "ab\tc"}, {"$\\\n$$\n", "$$"},
		// A width of 5, at most: then the 4 bytes of the piece behind find no place there.
		{"a\\\n" + `\001$` + "\n", "a\x01"}, {"aaa\\\n" + `\001$` + "\n", "aaa\x01"}, {"a\\\n" + `\001\` + "\nabcd$\n", "a\x01abcd"}, {`\001\` + "\na$\n", "\x01a"}, {`\\\` + "\n" + "a$\n", `\a`}, {`\\\` + "\n" + `\\$` + "\n", `\\`},
		// Widths reach up to 300; without one a line is of any length.
		{strings.Repeat("a", 299) + "\\\na$\n", strings.Repeat("a", 300)}, {strings.Repeat("a", 600) + "$\n", strings.Repeat("a", 600)}, {strings.Repeat(`\377`, 600) + "$\n", strings.Repeat("\xff", 600)},
		{strings.Repeat("a", 296) + "\\\n" + `\001$` + "\n", strings.Repeat("a", 296) + "\x01"},
	} {
		if got, e := Back(x.s); got != x.want || e != api.OK {
			t.Errorf("%q: %q %v", x.s, got, e)
		}
	}
}

func TestP10_4NoLists(t *testing.T) {
	for _, s := range []string{
		// The end is not there, or not whole, or twice.
		"", "$", "\n", "a", "abc", "abc\n", "abc$", "$\n\n", "abc$\n\n", "$\n$\n", "a$\nb$\n", "$\na", "a$\n ", "$\r\n", `\$` + "\n", "abc\\\n", "abc\\\n$\n", "\\\n$\n", "\\\n\\\n$\n",
		// Pieces that List does not put.
		`\$` + "\n", `a\` + "$\n", `\x$` + "\n", `\0$` + "\n", `\01$` + "\n", `\00$` + "\n", `\400$` + "\n", `\777$` + "\n", `\008$` + "\n", `\080$` + "\n", `\800$` + "\n", `\0a1$` + "\n", `\/$` + "\n", `\A$` + "\n", `\"$` + "\n", `\e$` + "\n",
		// Bytes that are told otherwise.
		`\101$` + "\n", `\040$` + "\n", `\176$` + "\n", `\134$` + "\n", `\011$` + "\n", `\007$` + "\n", `\012$` + "\n", `\015$` + "\n", "\t$\n", "\x00$\n", "\x7f$\n", "\x80$\n", "\xff$\n", "é$\n", "a\nb$\n", "\n$\n",
		// Lines that are empty, or torn, or end where no width ends them.
		"a\\\n\\\nb$\n", "\\\na$\n", "ab\\\n\\\nc$\n", "a\\\nbc$\n", "ab\\\nc\\\nd$\n", "abc\\\nd\\\ne$\n", "a\\\nb\\\ncd$\n", "abcdef\\\n" + `\tg\` + "\n" + "h$\n", `\00\` + "\n" + "1$\n", "\\\\\n\\$\n", `\` + "\\\nn$\n", "a\\\nb\n$\n", "a\\\\\nb$\n",
		`a\001\` + "\nb\\\nc$\n", "a\\\n" + `\001ab$` + "\n", "a\\\n" + `\\a$` + "\n",
		// Widths above 300.
		strings.Repeat("a", 300) + "\\\na$\n", strings.Repeat("a", 400) + "\\\na$\n", strings.Repeat(`\001`, 75) + "\\\n" + `\001$` + "\n", strings.Repeat("a", 299) + "\\\n" + strings.Repeat("a", 300) + "$\n",
		strings.Repeat("a", 100) + "\\\n" + strings.Repeat("a", 101) + "$\n",
	} {
		if got, e := Back(s); got != "" || e != api.ErrArg {
			t.Errorf("%q: %q %v", s, got, e)
		}
	}
}

// naiveBack tries each width for the text whose pieces may be those of s.
func naiveBack(s string) (string, bool) {
	plain := strings.ReplaceAll(strings.TrimSuffix(s, "$\n"), "\\\n", "")
	text := ""
	for plain != "" {
		n := 1
		for b := range 256 {
			one := string([]byte{byte(b)})
			if piece := strings.TrimSuffix(naiveList(one, 0), "$\n"); strings.HasPrefix(plain, piece) {
				text, n = text+one, len(piece)
				break
			}
		}
		plain = plain[n:]
	}
	for width := range 301 {
		if naiveList(text, width) == s {
			return text, true
		}
	}
	return "", false
}

// checkBack checks Back of s against naiveBack.
func checkBack(t *testing.T, s string) {
	t.Helper()
	got, e := Back(s)
	want, is := naiveBack(s)
	if got != want || is && e != api.OK || !is && e != api.ErrArg {
		t.Fatalf("%q: %q %v, not %q %v", s, got, e, want, is)
	}
}

func TestP10_4AllShortOnes(t *testing.T) {
	for _, s := range textsOf("a$\\\nn", 5) {
		checkBack(t, s)
		checkBack(t, s+"$\n")
	}
}

func TestP10_4RowsOfParts(t *testing.T) {
	for _, s := range rows([]string{"a", "b1", `\001`, `\11`, "$", "\\\n"}, 5) {
		checkBack(t, s+"$\n")
	}
}

func TestP10_5ListedComesBack(t *testing.T) {
	for _, s := range textsOf("a$\\\n\x01", 4) {
		for width := range 20 {
			if got, e := Back(List(s, width)); got != s || e != api.OK {
				t.Fatalf("%q %v: %q %v", s, width, got, e)
			}
		}
	}
	for width := range 301 {
		if got, e := Back(List(allBytes(), width)); got != allBytes() || e != api.OK {
			t.Fatalf("%v: %q %v", width, got, e)
		}
	}
}

func TestP10_5ByChance(t *testing.T) {
	r := rand.New(rand.NewPCG(10, 5))
	for i := range 1000 {
		s := byChance(r, []string{allBytes(), "ab", "a\x01", "a\t\xff\\", "\x00\x01"}[i%5], 600)
		width := r.IntN(301)
		if got, e := Back(List(s, width)); got != s || e != api.OK {
			t.Fatalf("%q %v: %q %v", s, width, got, e)
		}
	}
}

func TestP10_5ByChanceAmiss(t *testing.T) {
	r := rand.New(rand.NewPCG(5, 10))
	for range 300 {
		// A list with one line more, a byte less, or a line less is no list, unless some other width has it so.
		l := List(byChance(r, "a\t\xff\\", 20), r.IntN(20))
		at := r.IntN(len(l))
		checkBack(t, l[:at]+"\\\n"+l[at:])
		checkBack(t, l[:at]+l[at+1:])
		checkBack(t, strings.Replace(l, "\\\n", "", 1))
	}
}
