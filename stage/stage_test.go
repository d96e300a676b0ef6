package stage

import (
	"slices"
	"testing"

	"calender/api"
	"calender/bank"
	"calender/script"
	"calender/table"
)

// parsed is the script that s tells, with basic patterns.
func parsed(t *testing.T, s string) script.Script {
	t.Helper()
	x, place, e := script.Parse(s, false)
	if e != api.OK {
		t.Fatalf("%q is no script: error %d at %d", s, e, place)
	}
	return x
}

// staged is the stage of the script that s tells, over files.
func staged(t *testing.T, s string, files ...string) Stage {
	t.Helper()
	return Stage{Script: parsed(t, s), Files: files}
}

// someFiles is a table with an empty file, one that ends by a byte 10, and one that does not.
func someFiles() []table.File {
	return []table.File{{Name: "e"}, {Name: "f", Data: "1\n2\n"}, {Name: "g", Data: "3\n4"}}
}

func checkTable(t *testing.T, at string, got, want []table.File) {
	t.Helper()
	if !slices.Equal(got, want) {
		t.Errorf("%s: the files are %q, want %q", at, got, want)
	}
}

func TestP16_1Begin(t *testing.T) {
	all := someFiles()
	e, f, g := all[0], all[1], all[2]
	for _, c := range []struct {
		script string
		want   []table.File
	}{
		{"", all},
		{"p;r f\nr z", all},
		{"w f", []table.File{e, {Name: "f"}, g}},
		{"w e", all},
		{"w a", []table.File{{Name: "a"}, e, f, g}},
		{"w ee", []table.File{e, {Name: "ee"}, f, g}},
		{"w z", []table.File{e, f, g, {Name: "z"}}},
		{"s/a/b/w g", []table.File{e, f, {Name: "g"}}},
		{"s/a/b/", all},
		{"w g\nw b\ns/x/y/gw f\nw b", []table.File{{Name: "b"}, e, {Name: "f"}, {Name: "g"}}},
		// What is not meant, or not reached, is put as well.
		{"9,$!{\n2w f\n}\nq;w h", []table.File{e, {Name: "f"}, g, {Name: "h"}}},
		// What it reads, too, it writes nevertheless.
		{"r f\nw f", []table.File{e, {Name: "f"}, g}},
	} {
		checkTable(t, c.script, Begin(staged(t, c.script), all), c.want)
	}
	checkTable(t, "no files", Begin(staged(t, "w f\nw a"), nil), []table.File{{Name: "a"}, {Name: "f"}})
	checkTable(t, "no files, and none written", Begin(staged(t, "p"), nil), nil)
	checkTable(t, "its own files", Begin(staged(t, "w f", "f", "g"), all), []table.File{e, {Name: "f"}, g})
}

func TestP16_1BeginOfBad(t *testing.T) {
	bad := staged(t, "w f\nw h", "g")
	bad.Bad = true
	checkTable(t, "bad", Begin(bad, someFiles()), someFiles())
	checkTable(t, "bad, without files", Begin(bad, nil), nil)
	checkTable(t, "nothing but bad", Begin(Stage{Bad: true}, someFiles()), someFiles())
}

func TestP16_2LinesOfWhatComesIn(t *testing.T) {
	for _, c := range []struct {
		in   string
		want []table.Line
	}{
		{"", nil},
		{"a", []table.Line{{Text: "a"}}},
		{"a\n", []table.Line{{Text: "a", End: true}}},
		{"\n", []table.Line{{End: true}}},
		{"a\n\nb", []table.Line{{Text: "a", End: true}, {End: true}, {Text: "b"}}},
		{"a\nb\n", []table.Line{{Text: "a", End: true}, {Text: "b", End: true}}},
	} {
		for _, files := range [][]string{nil, {}} {
			got, status := Lines(Stage{Files: files}, c.in, someFiles())
			if !slices.Equal(got, c.want) || status != 0 {
				t.Errorf("%q: %v, %d, want %v, 0", c.in, got, status, c.want)
			}
		}
	}
}

func TestP16_2LinesOfFiles(t *testing.T) {
	one, two := table.Line{Text: "1", End: true}, table.Line{Text: "2", End: true}
	three, four := table.Line{Text: "3", End: true}, table.Line{Text: "4", End: true}
	open := table.Line{Text: "4"}
	for _, c := range []struct {
		files  []string
		want   []table.Line
		status int
	}{
		{[]string{"f"}, []table.Line{one, two}, 0},
		{[]string{"g"}, []table.Line{three, open}, 0},
		{[]string{"e"}, nil, 0},
		// The files stand as they are named; what is no last line of all has End.
		{[]string{"f", "g"}, []table.Line{one, two, three, open}, 0},
		{[]string{"g", "f"}, []table.Line{three, four, one, two}, 0},
		{[]string{"g", "g"}, []table.Line{three, four, three, open}, 0},
		{[]string{"e", "g", "e"}, []table.Line{three, open}, 0},
		{[]string{"g", "e", "g", "e"}, []table.Line{three, four, three, open}, 0},
		// One that is not there says nothing, but by the number.
		{[]string{"z"}, nil, 2},
		{[]string{""}, nil, 2},
		{[]string{"z", "f"}, []table.Line{one, two}, 2},
		{[]string{"f", "z", "g"}, []table.Line{one, two, three, open}, 2},
		{[]string{"g", "z"}, []table.Line{three, open}, 2},
		{[]string{"z", "y", "e"}, nil, 2},
		{[]string{"F"}, nil, 2},
	} {
		got, status := Lines(Stage{Files: c.files}, "what comes in\n", someFiles())
		if !slices.Equal(got, c.want) || status != c.status {
			t.Errorf("%q: %v, %d, want %v, %d", c.files, got, status, c.want, c.status)
		}
	}
	if got, status := Lines(Stage{Files: []string{"f"}}, "a", nil); len(got) != 0 || status != 2 {
		t.Errorf("f of no files: %v, %d", got, status)
	}
}

// The files are as they are handed in: what a stage empties as it begins, Begin has emptied.
func TestP16_2LinesOfWhatIsWritten(t *testing.T) {
	g := staged(t, "w f\nw new", "f", "new")
	if got, status := Lines(g, "", someFiles()); len(got) != 2 || status != 2 {
		t.Errorf("ahead of Begin: %v, %d, want two lines, 2", got, status)
	}
	if got, status := Lines(g, "", Begin(g, someFiles())); len(got) != 0 || status != 0 {
		t.Errorf("behind Begin: %v, %d, want none, 0", got, status)
	}
}

func TestP16_2LinesOfBad(t *testing.T) {
	for _, files := range [][]string{nil, {"f"}, {"f", "z"}} {
		if got, status := Lines(Stage{Files: files, Bad: true}, "a\nb\n", someFiles()); len(got) != 0 || status != 0 {
			t.Errorf("bad, with %q: %v, %d", files, got, status)
		}
	}
}

func TestP16_4Paths(t *testing.T) {
	for _, c := range []struct {
		script        string
		files         []string
		reads, writes []string
	}{
		{"", nil, nil, nil},
		{"p", []string{}, nil, nil},
		{"r f", nil, []string{"f"}, nil},
		{"w f", nil, nil, []string{"f"}},
		{"s/a/b/w f", nil, nil, []string{"f"}},
		{"s/a/b/", []string{"f"}, []string{"f"}, nil},
		{"", []string{"b", "a", "c"}, []string{"a", "b", "c"}, nil},
		{"", []string{"b", "a", "b", "b", "a"}, []string{"a", "b"}, nil},
		{"r b\nr d\nr b", []string{"c", "b", "a", "c"}, []string{"a", "b", "c", "d"}, nil},
		{"r z\nr A", []string{"a", "\xff", "aa"}, []string{"A", "a", "aa", "z", "\xff"}, nil},
		{"w c\ns/a/b/w a\nw b\nw c", nil, nil, []string{"a", "b", "c"}},
		{"w b\nr c\nw a\nr b", []string{"a", "d"}, []string{"a", "b", "c", "d"}, []string{"a", "b"}},
		{"2,3!{\nr x\nw y\n}", nil, []string{"x"}, []string{"y"}},
		// No file has that name, but a stage may be told to read it.
		{"r a", []string{"", "b", ""}, []string{"", "a", "b"}, nil},
		{"a\\\nr f\ni\\\nw f", nil, nil, nil},
	} {
		reads, writes := Paths(staged(t, c.script, c.files...))
		if !slices.Equal(reads, c.reads) || !slices.Equal(writes, c.writes) {
			t.Errorf("%q with %q: %q and %q, want %q and %q", c.script, c.files, reads, writes, c.reads, c.writes)
		}
	}
}

func TestP16_4PathsOfBad(t *testing.T) {
	bad := staged(t, "r f\nw g", "h")
	bad.Bad = true
	if reads, writes := Paths(bad); len(reads) != 0 || len(writes) != 0 {
		t.Errorf("bad: %q and %q", reads, writes)
	}
}

// Nothing that is handed in is changed, nor by writing over what was answered; nor is what was answered ahead of that.
func TestP16AnswersAreNew(t *testing.T) {
	for _, isBad := range []bool{false, true} {
		g := staged(t, "r f\nw h\np", "g", "f", "e", "a")
		g.Bad = isBad
		// A list with more behind it is one that an append could write into.
		g.Files = slices.Grow(g.Files, 4)
		files := slices.Grow(someFiles(), 4)
		more := files[:len(files)+1]
		check := func(at string) {
			t.Helper()
			checkTable(t, at, files, someFiles())
			if !slices.Equal(g.Files, []string{"g", "f", "e", "a"}) || g.Files[:5][4] != "" || more[len(files)] != (table.File{}) {
				t.Errorf("%s: the stage has the files %q, and behind the lists stand %q and %q", at, g.Files, g.Files[:5][4], more[len(files)])
			}
		}
		begun := Begin(g, files)
		lines, _ := Lines(g, "a\n", files)
		end, _ := Run(g, "a\n", files, 100)
		reads, writes := Paths(g)
		check("asked")
		for _, l := range [][]table.File{begun, end.Table} {
			for i := range l {
				l[i] = table.File{Name: "written", Data: "over"}
			}
		}
		for i := range lines {
			lines[i] = table.Line{}
		}
		for _, l := range [][]string{reads, writes} {
			for i := range l {
				l[i] = "written over"
			}
		}
		for i := range end.Out {
			end.Out[i] = bank.Emit{}
		}
		check("written over")
		if isBad {
			continue
		}
		if again, _ := Paths(g); !slices.Equal(again, []string{"a", "e", "f", "g"}) {
			t.Errorf("asked again, it reads %q", again)
		}
		if again, _ := Run(g, "a\n", files, 100); bank.Bytes(again.Out) != "3\n3\n1\n2\n4\n4\n1\n2\n1\n1\n1\n2\n2\n2\n1\n2\n" {
			t.Errorf("asked again, %q goes out", bank.Bytes(again.Out))
		}
	}
}
