package bank

import (
	"fmt"
	"slices"
	"testing"

	"calender/addr"
	"calender/table"
)

// running is a bank that runs ahead of command 0 of n, with a line that is not the last one.
func running(n int) Bank {
	return Bank{Phase: Runs, N: 3, Used: -1, Pattern: "one\ntwo", Hold: "held", End: true, Ranges: make([]addr.State, n)}
}

func TestP15_4OnlyIfItRuns(t *testing.T) {
	x := parsed(t, "s/one/x/w f\np")
	files := []table.File{{Name: "f", Data: "data"}}
	for _, phase := range []int{Begins, WaitsN, WaitsJ, Over} {
		for pc := 0; pc <= 2; pc++ {
			b := full(phase, 2)
			b.PC = pc
			checkStep(t, fmt.Sprintf("phase %d", phase), x, false, b, files, b, files, nil)
		}
	}
}

func TestP15_4BehindAllCommands(t *testing.T) {
	for _, c := range []struct {
		script string
		quiet  bool
		out    []Emit
	}{
		{"", false, []Emit{{"one\ntwo", true}}},
		{"p;p", false, []Emit{{"one\ntwo", true}}},
		{"p", true, nil},
		{"#n\np", false, nil},
		{"#n\np", true, nil},
	} {
		x := parsed(t, c.script)
		b := running(len(x.Cmds))
		b.PC = len(x.Cmds)
		b.Changed, b.Last = true, true
		want := b
		want.Phase = Begins
		checkStep(t, c.script, x, c.quiet, b, nil, want, nil, c.out)

		b.End = false
		want.End = false
		noEnd := slices.Clone(c.out)
		for i := range noEnd {
			noEnd[i].End = false
		}
		checkStep(t, c.script+" without a byte 10", x, c.quiet, b, nil, want, nil, noEnd)

		b.End, b.Queue = true, []Later{{"later", false}}
		want.End = true
		checkStep(t, c.script+" with a queue", x, c.quiet, b, nil, want, nil, append(slices.Clone(c.out), Emit{"later", true}))
	}
}

func TestP15_4Flush(t *testing.T) {
	files := []table.File{{Name: "all", Data: "a\nb\n"}, {Name: "byte", Data: "\n"}, {Name: "none", Data: ""}, {Name: "part", Data: "c\nd"}}
	queue := []Later{{"all", false}, {"all", true}, {"none", true}, {"", false}, {"byte", true}, {"zzz", true}, {"part", true}, {"two\nlines", false}, {"all", true}, {"none", false}}
	behind := []Emit{{"all", true}, {"a\nb", true}, {"", true}, {"", true}, {"c\nd", false}, {"two\nlines", true}, {"a\nb", true}, {"none", true}}
	one := Emit{"one\ntwo", true}
	for _, c := range []struct {
		script string
		last   bool
		phase  int
		out    []Emit
	}{
		{"", false, Begins, []Emit{one}},
		{"d", false, Begins, nil},
		{"D", false, Runs, nil},
		{"c\\\nnew", false, Begins, []Emit{{"new", true}}},
		{"n", false, WaitsN, []Emit{one}},
		{"n", true, Over, []Emit{one}},
		{"N", false, WaitsJ, nil},
		{"N", true, Over, []Emit{one}},
		{"q", false, Over, []Emit{one}},
	} {
		x := parsed(t, c.script)
		b := running(len(x.Cmds))
		b.Queue, b.Last = queue, c.last
		got, gotFiles, out := Step(x, false, b, files)
		want := append(slices.Clone(c.out), behind...)
		if got.Phase != c.phase || len(got.Queue) != 0 || !slices.Equal(out, want) || !slices.Equal(gotFiles, files) {
			t.Errorf("%q: phase %d, queue %v, out %v, files %v; want %d, none, %v", c.script, got.Phase, got.Queue, out, gotFiles, c.phase, want)
		}
	}
	for _, s := range []string{"p", "=", "i\\\nx", "l", "P", "Q", "b", "s/one/two/p", "w f", "a\\\nx", "r all"} {
		x := parsed(t, s)
		b := running(1)
		b.Queue = queue
		if got, _, _ := Step(x, false, b, files); len(got.Queue) < len(queue) || !slices.Equal(got.Queue[:len(queue)], queue) {
			t.Errorf("%q: the queue is %v", s, got.Queue)
		}
	}
}

// stepCase is a step of command 0 of a script: what is changed in a running bank ahead of it, and by it (PC aside, which is one more).
type stepCase struct {
	script string
	from   func(*Bank)
	to     func(*Bank)
	out    []Emit
}

func nothing(*Bank) {}

func checkCases(t *testing.T, cases []stepCase) {
	t.Helper()
	for i, c := range cases {
		x := parsed(t, c.script)
		b := running(len(x.Cmds))
		c.from(&b)
		want := own(b)
		want.PC++
		c.to(&want)
		checkStep(t, fmt.Sprintf("case %d, %q", i, c.script), x, false, b, nil, want, nil, c.out)
	}
}

func noEnd(b *Bank)   { b.End = false }
func isLast(b *Bank)  { b.Last = true }
func changed(b *Bank) { b.Changed = true }

// pattern makes Pattern s.
func pattern(s string) func(*Bank) { return func(b *Bank) { b.Pattern = s } }

// goes makes PC pc.
func goes(pc int) func(*Bank) { return func(b *Bank) { b.PC = pc } }

// phase makes Phase n.
func phase(n int) func(*Bank) { return func(b *Bank) { b.Phase = n } }

// both does all of l.
func both(l ...func(*Bank)) func(*Bank) {
	return func(b *Bank) {
		for _, do := range l {
			do(b)
		}
	}
}

func TestP15_4Blocks(t *testing.T) {
	checkCases(t, []stepCase{
		{"{p}", nothing, nothing, nil},
		{"3{p}", nothing, nothing, nil},
		{"4{p}", nothing, goes(3), nil},
		{"4{p;{d}};=", nothing, goes(6), nil},
		{"3!{p}", nothing, goes(3), nil},
		{"4{}", nothing, goes(2), nil},
		{"4p;p", nothing, nothing, nil},
		{"4!p;p", nothing, nothing, []Emit{{"one\ntwo", true}}},
	})
	x := parsed(t, "4{p;d};=")
	b := running(len(x.Cmds))
	b.PC = 3
	want := b
	want.PC = 4
	checkStep(t, "the end of a block", x, false, b, nil, want, nil, nil)
}

func TestP15_4Numbers(t *testing.T) {
	checkCases(t, []stepCase{
		{"=", nothing, nothing, []Emit{{"3", true}}},
		{"=", both(noEnd, isLast), nothing, []Emit{{"3", true}}},
		{"=", func(b *Bank) { b.N = 1234567890 }, nothing, []Emit{{"1234567890", true}}},
	})
}

func TestP15_4Texts(t *testing.T) {
	queued := func(l ...Later) func(*Bank) { return func(b *Bank) { b.Queue = append(b.Queue, l...) } }
	checkCases(t, []stepCase{
		{"a\\\none", nothing, queued(Later{"one", false}), nil},
		{"a\\\none", queued(Later{"f", true}), queued(Later{"one", false}), nil},
		{"a\\\none\\\ntwo", nothing, queued(Later{"one\ntwo", false}), nil},
		{"a\\\n\\\n", nothing, queued(Later{"\n", false}), nil},
		{"i\\\none", nothing, nothing, []Emit{{"one", true}}},
		{"i\\\none", both(noEnd, queued(Later{"f", true})), nothing, []Emit{{"one", true}}},
		{"i\\\none\\\ntwo", nothing, nothing, []Emit{{"one\ntwo", true}}},
		{"r f", nothing, queued(Later{"f", true}), nil},
		{"r  a b ", queued(Later{"x", false}), queued(Later{"a b", true}), nil},
	})
}

func TestP15_4Change(t *testing.T) {
	ends := phase(Begins)
	open := func(to int) func(*Bank) { return func(b *Bank) { b.Ranges[0] = addr.State{Open: true, To: to} } }
	shut := func(b *Bank) { b.Ranges[0] = addr.State{} }
	put := []Emit{{"new", true}}
	checkCases(t, []stepCase{
		{"c\\\nnew", nothing, ends, put},
		{"c\\\nnew", noEnd, ends, put},
		{"3c\\\nnew", nothing, ends, put},
		{"$!c\\\nnew", nothing, ends, put},
		{"3,5c\\\nnew", nothing, both(ends, open(5)), nil},
		{"1,5c\\\nnew", open(5), ends, nil},
		{"1,3c\\\nnew", open(3), both(ends, shut), put},
		{"3,2c\\\nnew", nothing, ends, put},
		{"2,$c\\\nnew", open(0), ends, nil},
		{"2,$c\\\nnew", both(open(0), isLast), both(ends, shut), put},
		{"4,5!c\\\nnew", nothing, ends, put},
		// Behind its end, a range that is turned shuts, and the line is meant.
		{"1,2!c\\\nnew", open(2), both(ends, shut), put},
	})
	x := parsed(t, "c\\\nnew\np")
	b := running(2)
	b.Queue = []Later{{"later", false}}
	want := b
	want.Phase, want.PC, want.Queue = Begins, 1, nil
	checkStep(t, "a change, and a queue", x, true, b, nil, want, nil, []Emit{{"new", true}, {"later", true}})
}

func TestP15_4Jumps(t *testing.T) {
	still := func(b *Bank) { b.Changed = false }
	checkCases(t, []stepCase{
		{"b", nothing, goes(1), nil},
		{"b;p", nothing, goes(2), nil},
		{"be;p;p;:e;p", changed, goes(3), nil},
		{":x;bx", nothing, goes(0), nil},
		{"4b;p;p", nothing, goes(1), nil},
		{"t;p;p", nothing, nothing, nil},
		{"t;p;p", changed, both(goes(3), still), nil},
		{"te;p;:e;p", changed, both(goes(2), still), nil},
		{"4te;p;:e;p", changed, nothing, nil},
		{"T;p;p", nothing, goes(3), nil},
		{"T;p;p", changed, still, nil},
		{"Te;p;:e;p", nothing, goes(2), nil},
		{"4Te;p;:e;p", nothing, nothing, nil},
	})
}

func TestP15_4Drop(t *testing.T) {
	ends := phase(Begins)
	checkCases(t, []stepCase{
		{"d;p", nothing, ends, nil},
		{"D;p", pattern("one"), ends, nil},
		{"D;p", pattern(""), ends, nil},
		{"D;p", nothing, both(goes(0), pattern("two")), nil},
		{"D;p", pattern("a\nb\nc"), both(goes(0), pattern("b\nc")), nil},
		{"D;p", pattern("\n"), both(goes(0), pattern("")), nil},
		{"D;p", both(isLast, noEnd, changed), both(goes(0), pattern("two")), nil},
	})
	x := parsed(t, "p;p;D;p")
	b := running(4)
	b.PC = 2
	b.Queue = []Later{{"later", false}}
	want := b
	want.PC, want.Pattern, want.Queue = 0, "two", nil
	checkStep(t, "D further behind", x, false, b, nil, want, nil, []Emit{{"later", true}})
}

func TestP15_4Hold(t *testing.T) {
	hold := func(s string) func(*Bank) { return func(b *Bank) { b.Hold = s } }
	checkCases(t, []stepCase{
		{"g", nothing, pattern("held"), nil},
		{"g", hold(""), pattern(""), nil},
		{"G", nothing, pattern("one\ntwo\nheld"), nil},
		{"G", both(hold(""), pattern("")), pattern("\n"), nil},
		{"h", nothing, hold("one\ntwo"), nil},
		{"h", pattern(""), hold(""), nil},
		{"H", nothing, hold("held\none\ntwo"), nil},
		{"H", both(hold(""), pattern("")), hold("\n"), nil},
		{"x", nothing, both(hold("one\ntwo"), pattern("held")), nil},
		{"x", noEnd, both(hold("one\ntwo"), pattern("held")), nil},
	})
}

func TestP15_4List(t *testing.T) {
	long := pattern("0123456789012345678901234567890123456789012345678901234567890123456789")
	checkCases(t, []stepCase{
		{"l", nothing, nothing, []Emit{{`one\ntwo$`, true}}},
		{"l", both(noEnd, pattern("a\t\xc8")), nothing, []Emit{{`a\t\310$`, true}}},
		{"l", pattern(""), nothing, []Emit{{"$", true}}},
		{"l", long, nothing, []Emit{{"012345678901234567890123456789012345678901234567890123456789012345678\\\n9$", true}}},
		{"l 70", long, nothing, []Emit{{"012345678901234567890123456789012345678901234567890123456789012345678\\\n9$", true}}},
		{"l 71", long, nothing, []Emit{{"0123456789012345678901234567890123456789012345678901234567890123456789$", true}}},
		{"l 0", long, nothing, []Emit{{"0123456789012345678901234567890123456789012345678901234567890123456789$", true}}},
		{"l 1", pattern("abc"), nothing, []Emit{{"abc$", true}}},
		{"l 3", pattern("abc"), nothing, []Emit{{"ab\\\nc$", true}}},
	})
}

func TestP15_4NextLine(t *testing.T) {
	put := []Emit{{"one\ntwo", true}}
	part := []Emit{{"one\ntwo", false}}
	checkCases(t, []stepCase{
		{"n", nothing, both(goes(0), phase(WaitsN)), put},
		{"n", noEnd, both(goes(0), phase(WaitsN)), part},
		{"n", isLast, both(goes(0), phase(Over)), put},
		{"n", both(isLast, noEnd), both(goes(0), phase(Over)), part},
		{"#n\nn", nothing, both(goes(0), phase(WaitsN)), nil},
		{"#n\nn", isLast, both(goes(0), phase(Over)), nil},
		{"4n", nothing, nothing, nil},
		{"N", nothing, both(goes(0), phase(WaitsJ)), nil},
		{"N", isLast, both(goes(0), phase(Over)), put},
		{"N", both(isLast, noEnd), both(goes(0), phase(Over)), part},
		{"#n\nN", isLast, both(goes(0), phase(Over)), nil},
		{"4N", nothing, nothing, nil},
	})
}

// What waits goes on behind the command, with the line that came.
func TestP15_4GoesOnBehindIt(t *testing.T) {
	for _, c := range []struct{ script, pattern string }{{"p;n;p", "new"}, {"p;N;p", "one\ntwo\nnew"}} {
		x := parsed(t, c.script)
		b := running(3)
		b.PC = 1
		b, _, _ = Step(x, false, b, nil)
		got := Give(b, table.Line{Text: "new"}, true)
		want := running(3)
		want.PC, want.N, want.Pattern, want.End, want.Last = 2, 4, c.pattern, false, true
		checkBank(t, c.script, got, want)
	}
}

func TestP15_4Put(t *testing.T) {
	checkCases(t, []stepCase{
		{"p", nothing, nothing, []Emit{{"one\ntwo", true}}},
		{"p", noEnd, nothing, []Emit{{"one\ntwo", false}}},
		{"#n\np", nothing, nothing, []Emit{{"one\ntwo", true}}},
		{"P", nothing, nothing, []Emit{{"one", true}}},
		{"P", noEnd, nothing, []Emit{{"one", true}}},
		{"P", pattern("\na"), nothing, []Emit{{"", true}}},
		{"P", pattern("a"), nothing, []Emit{{"a", true}}},
		{"P", both(noEnd, pattern("a")), nothing, []Emit{{"a", false}}},
		{"#n\nP", both(noEnd, pattern("")), nothing, []Emit{{"", false}}},
	})
}

func TestP15_4Quit(t *testing.T) {
	over := func(code int) func(*Bank) {
		return func(b *Bank) { b.Phase, b.Code, b.Queue = Over, code, nil }
	}
	queue := func(b *Bank) { b.Queue = []Later{{"later", false}} }
	put := []Emit{{"one\ntwo", true}}
	checkCases(t, []stepCase{
		{"q", nothing, over(0), put},
		{"q 7", noEnd, over(7), []Emit{{"one\ntwo", false}}},
		{"q255", queue, over(255), []Emit{{"one\ntwo", true}, {"later", true}}},
		{"#n\nq", queue, over(0), []Emit{{"later", true}}},
		{"4q 7", nothing, nothing, nil},
		{"Q", nothing, over(0), nil},
		{"Q 7", noEnd, over(7), nil},
		{"Q 7", queue, both(over(7), queue), nil},
	})
}

func TestP15_4Write(t *testing.T) {
	for _, c := range []struct {
		script   string
		pattern  string
		ahead    []table.File
		behind   []table.File
		wantOut  []Emit
		wantText string
	}{
		{"w f", "a", nil, []table.File{{Name: "f", Data: "a\n"}}, nil, "a"},
		{"w f", "", []table.File{{Name: "f", Data: "x"}}, []table.File{{Name: "f", Data: "x\n"}}, nil, ""},
		{"w f", "a\nb", []table.File{{Name: "a", Data: "1"}, {Name: "f", Data: "x\n"}, {Name: "g"}}, []table.File{{Name: "a", Data: "1"}, {Name: "f", Data: "x\na\nb\n"}, {Name: "g"}}, nil, "a\nb"},
		{"s/a/b/w f", "aa", nil, []table.File{{Name: "f", Data: "ba\n"}}, nil, "ba"},
		{"s/a/b/pw f", "aa", nil, []table.File{{Name: "f", Data: "ba\n"}}, []Emit{{"ba", false}}, "ba"},
		{"s/x/b/pw f", "aa", []table.File{{Name: "g"}}, []table.File{{Name: "g"}}, nil, "aa"},
		{"s/a/b/", "aa", []table.File{{Name: "g"}}, []table.File{{Name: "g"}}, nil, "ba"},
		{"4w f", "a", nil, nil, nil, "a"},
	} {
		x := parsed(t, c.script)
		b := running(1)
		b.Pattern, b.End = c.pattern, false
		want := own(b)
		want.PC, want.Pattern = 1, c.wantText
		if x.Cmds[0].Op == 's' {
			want.Used = 0
			want.Changed = c.wantText != c.pattern
		}
		checkStep(t, c.script, x, false, b, c.ahead, want, c.behind, c.wantOut)
	}
}

func TestP15_4Replace(t *testing.T) {
	used := func(n int) func(*Bank) { return func(b *Bank) { b.Used = n } }
	becomes := func(s string) func(*Bank) { return both(pattern(s), changed, used(0)) }
	checkCases(t, []stepCase{
		{"s/one/x/", nothing, becomes("x\ntwo"), nil},
		{"s/o/x/", nothing, becomes("xne\ntwo"), nil},
		{"s/o/x/2", nothing, becomes("one\ntwx"), nil},
		{"s/o/x/3", nothing, used(0), nil},
		{"s/o/x/3", changed, used(0), nil},
		{"s/o/x/g", nothing, becomes("xne\ntwx"), nil},
		{"s/o/x/2g", pattern("ooo"), becomes("oxx"), nil},
		{"s/o/o/", nothing, becomes("one\ntwo"), nil},
		{"s/\\(o\\)n/<\\1&>/p", nothing, becomes("<oon>e\ntwo"), []Emit{{"<oon>e\ntwo", true}}},
		{"s/z/x/p", nothing, used(0), nil},
		{"s/E/x/", nothing, used(0), nil},
		{"s/E/x/I", nothing, becomes("onx\ntwo"), nil},
		{"#n\ns/o/x/p", noEnd, becomes("xne\ntwo"), []Emit{{"xne\ntwo", false}}},
		{"4s/o/x/", nothing, nothing, nil},
		{"s/a//", pattern("a"), becomes(""), nil},
		{"s/x*/-/g", pattern("abc"), becomes("-a-b-c-"), nil},
	})
}

func TestP15_4Swap(t *testing.T) {
	checkCases(t, []stepCase{
		{"y/oen/abo/", nothing, pattern("aob\ntwa"), nil},
		{"y/\\n/ /", nothing, pattern("one two"), nil},
		{"y/z/x/", nothing, nothing, nil},
		{"y///", noEnd, nothing, nil},
		{"4y/o/x/", nothing, nothing, nil},
	})
}
