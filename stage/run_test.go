package stage

import (
	"fmt"
	"math"
	"slices"
	"testing"

	"calender/api"
	"calender/bank"
	"calender/table"
)

func sameEnd(a, b End) bool {
	return slices.Equal(a.Out, b.Out) && slices.Equal(a.Table, b.Table) && a.Status == b.Status && a.Steps == b.Steps
}

// checkRun tells what is not as it is to be with as much fuel as it takes, and with one step less.
func checkRun(t *testing.T, at string, g Stage, in string, files []table.File, want End) {
	t.Helper()
	for _, fuel := range []int{want.Steps, want.Steps + 1, api.MaxFuel, math.MaxInt} {
		if got, e := Run(g, in, files, fuel); e != api.OK || !sameEnd(got, want) {
			t.Errorf("%s, fuel %d: %+v, error %d, want %+v", at, fuel, got, e, want)
		}
	}
	less := []int{want.Steps - 1, 0, -1, math.MinInt}
	if want.Steps == 0 {
		// What does no step needs no fuel.
		for _, fuel := range less {
			if got, e := Run(g, in, files, fuel); e != api.OK || !sameEnd(got, want) {
				t.Errorf("%s, fuel %d: %+v, error %d, want %+v", at, fuel, got, e, want)
			}
		}
		return
	}
	for _, fuel := range less {
		if got, e := Run(g, in, files, fuel); e != api.ErrFuel || !sameEnd(got, End{}) {
			t.Errorf("%s, fuel %d: %+v, error %d, want nothing, and error %d", at, fuel, got, e, api.ErrFuel)
		}
	}
}

// line is a text that goes out with a byte 10.
func line(text string) bank.Emit { return bank.Emit{Text: text, End: true} }

// open is a text that goes out without one.
func open(text string) bank.Emit { return bank.Emit{Text: text} }

func TestP16_3Run(t *testing.T) {
	for _, c := range []struct {
		script, in string
		out        []bank.Emit
		status     int
		steps      int
	}{
		{"", "", nil, 0, 0},
		{"p", "", nil, 0, 0},
		{"q 5", "", nil, 0, 0},
		{"", "a", []bank.Emit{open("a")}, 0, 1},
		{"", "a\n", []bank.Emit{line("a")}, 0, 1},
		{"", "a\n\nb", []bank.Emit{line("a"), line(""), open("b")}, 0, 3},
		{"p", "a\nb", []bank.Emit{line("a"), line("a"), open("b"), open("b")}, 0, 4},
		{"$!d", "a\nb\nc\n", []bank.Emit{line("c")}, 0, 4},
		{"$!d", "a\nb\nc", []bank.Emit{open("c")}, 0, 4},
		{"2q", "a\nb\nc\n", []bank.Emit{line("a"), line("b")}, 0, 3},
		{"q", "a", []bank.Emit{open("a")}, 0, 1},
		{"2q 7", "a\nb\nc\n", []bank.Emit{line("a"), line("b")}, 7, 3},
		{"2Q 255", "a\nb\nc\n", []bank.Emit{line("a")}, 255, 3},
		{"3q 7", "a\nb\n", []bank.Emit{line("a"), line("b")}, 0, 4},
		{"d", "a\nb\n", nil, 0, 2},
		{"=;d", "a\nb\n", []bank.Emit{line("1"), line("2")}, 0, 4},
		// At the last line n and N end the stage, but a line is given ahead of that.
		{"n;d", "a\nb\nc\n", []bank.Emit{line("a"), line("c")}, 0, 3},
		{"n;d", "a\nb\n", []bank.Emit{line("a")}, 0, 2},
		{"N;s/\\n/+/", "a\nb\nc", []bank.Emit{line("a+b"), open("c")}, 0, 4},
		{"$!N;P;D", "a\nb\nc\n", []bank.Emit{line("a"), line("b"), line("c")}, 0, 9},
		{":a;N;$!ba;s/\\n/,/g", "a\nb\nc\n", []bank.Emit{line("a,b,c")}, 0, 6},
		{"1!G;h;$!d", "a\nb\nc\n", []bank.Emit{line("c\nb\na")}, 0, 10},
		{"a x\nn", "a\nb", []bank.Emit{line("a"), line("x"), open("b")}, 0, 3},
		{"#n\n$p", "a\nb", []bank.Emit{open("b")}, 0, 4},
	} {
		checkRun(t, fmt.Sprintf("%q over %q", c.script, c.in), staged(t, c.script), c.in, someFiles(), End{c.out, someFiles(), c.status, c.steps})
	}
}

func TestP16_3RunQuiet(t *testing.T) {
	g := staged(t, "p;n;$!b;i x")
	g.Quiet = true
	checkRun(t, "p;n;$!b;i x", g, "a\nb", nil, End{[]bank.Emit{line("a"), line("x")}, nil, 0, 5})
	g = staged(t, "2q 3")
	g.Quiet = true
	checkRun(t, "2q 3", g, "a\nb\n", nil, End{nil, nil, 3, 3})
}

func TestP16_3RunOverFiles(t *testing.T) {
	all := someFiles()
	e, f := all[0], all[1]
	for _, c := range []struct {
		script string
		files  []string
		want   End
	}{
		{"", []string{"f"}, End{[]bank.Emit{line("1"), line("2")}, all, 0, 2}},
		{"", []string{"g", "f"}, End{[]bank.Emit{line("3"), line("4"), line("1"), line("2")}, all, 0, 4}},
		{"", []string{"e"}, End{nil, all, 0, 0}},
		// The last line is the last one of all, and numbers go on from file to file.
		{"$!d;=", []string{"f", "g", "e"}, End{[]bank.Emit{line("4"), open("4")}, all, 0, 6}},
		{"2,3d", []string{"f", "g"}, End{[]bank.Emit{line("1"), open("4")}, all, 0, 6}},
		{"N;N;N;d", []string{"f", "g"}, End{nil, all, 0, 4}},
		// What is not there is said by the status, unless the script says one.
		{"", []string{"z"}, End{nil, all, 2, 0}},
		{"", []string{"z", "g"}, End{[]bank.Emit{line("3"), open("4")}, all, 2, 2}},
		{"q", []string{"g", "z"}, End{[]bank.Emit{line("3")}, all, 2, 1}},
		{"q 0", []string{"z", "g"}, End{[]bank.Emit{line("3")}, all, 2, 1}},
		{"q 1", []string{"g", "z"}, End{[]bank.Emit{line("3")}, all, 1, 1}},
		{"Q 9", []string{"z", "g"}, End{nil, all, 9, 1}},
		{"Q 9", []string{"z"}, End{nil, all, 2, 0}},
		{"r z", []string{"f"}, End{[]bank.Emit{line("1"), line("2")}, all, 0, 4}},
		// What it writes has nothing when it begins, and is there.
		{"w g", []string{"g"}, End{nil, []table.File{e, f, {Name: "g"}}, 0, 0}},
		{"w g", []string{"g", "f"}, End{[]bank.Emit{line("1"), line("2")}, []table.File{e, f, {Name: "g", Data: "1\n2\n"}}, 0, 4}},
		{"w new", []string{"new"}, End{nil, append(someFiles(), table.File{Name: "new"}), 0, 0}},
		{"w new", []string{"new", "z"}, End{nil, append(someFiles(), table.File{Name: "new"}), 2, 0}},
		{"w new", []string{"new", "g"}, End{[]bank.Emit{line("3"), open("4")}, append(someFiles(), table.File{Name: "new", Data: "3\n4\n"}), 0, 4}},
	} {
		checkRun(t, fmt.Sprintf("%q over the files %q", c.script, c.files), staged(t, c.script, c.files...), "what comes in\n", all, c.want)
	}
}

func TestP16_3RunAndItsFiles(t *testing.T) {
	all := someFiles()
	e, f, g := all[0], all[1], all[2]
	for _, c := range []struct {
		script, in string
		want       End
	}{
		{"w e", "a\nb", End{[]bank.Emit{line("a"), open("b")}, []table.File{{Name: "e", Data: "a\nb\n"}, f, g}, 0, 4}},
		{"w f", "", End{nil, []table.File{e, {Name: "f"}, g}, 0, 0}},
		{"/b/w f", "a\n", End{[]bank.Emit{line("a")}, []table.File{e, {Name: "f"}, g}, 0, 2}},
		{"/b/w f\nd", "ab\na\nb\n", End{nil, []table.File{e, {Name: "f", Data: "ab\nb\n"}, g}, 0, 6}},
		{"s/a/b/w h\nq 3", "a\na\n", End{[]bank.Emit{line("b")}, append(someFiles(), table.File{Name: "h", Data: "b\n"}), 3, 2}},
		{"r g", "a\nb\n", End{[]bank.Emit{line("a"), open("3\n4"), line("b"), open("3\n4")}, all, 0, 4}},
		// What it has written is there to be read.
		{"r f\nw f", "a\nb\n", End{[]bank.Emit{line("a"), line("a"), line("b"), line("a\nb")}, []table.File{e, {Name: "f", Data: "a\nb\n"}, g}, 0, 6}},
	} {
		checkRun(t, fmt.Sprintf("%q over %q", c.script, c.in), staged(t, c.script), c.in, all, c.want)
	}
}

func TestP16_3RunOfBad(t *testing.T) {
	g := staged(t, "w f\np", "g", "z")
	g.Bad = true
	checkRun(t, "bad", g, "a\n", someFiles(), End{Table: someFiles(), Status: 1})
	checkRun(t, "nothing but bad", Stage{Bad: true}, "a\n", nil, End{Status: 1})
}

// What never ends is out of fuel, whatever it has put and written till then.
func TestP16_3RunWithoutEnd(t *testing.T) {
	for _, s := range []string{":a;ba", ":a;p;w f\nba", "$!d;:a;ba", "n;:a;=;ba", "s/$/\\n/;D"} {
		for _, fuel := range []int{math.MinInt, -1, 0, 1, 2, 10, 1000} {
			if got, e := Run(staged(t, s), "a\nb\n", someFiles(), fuel); e != api.ErrFuel || !sameEnd(got, End{}) {
				t.Errorf("%q, fuel %d: %+v, error %d", s, fuel, got, e)
			}
		}
	}
	// Without a line it does not begin to.
	if got, e := Run(staged(t, ":a;ba"), "", nil, 0); e != api.OK || !sameEnd(got, End{}) {
		t.Errorf("without a line: %+v, error %d", got, e)
	}
}
