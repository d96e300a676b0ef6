package bank

import (
	"fmt"
	"iter"
	"math/rand/v2"
	"slices"
	"strconv"
	"strings"
	"testing"

	"calender/addr"
	"calender/api"
	"calender/find"
	"calender/rx"
	"calender/script"
	"calender/subst"
	"calender/table"
	"calender/trans"
)

// giveByWords is P15.2, word by word.
func giveByWords(b Bank, l table.Line, last bool) Bank {
	if b.Phase != Begins && b.Phase != WaitsN && b.Phase != WaitsJ {
		return b
	}
	told := b
	told.N++
	told.Pattern, told.End, told.Last, told.PC, told.Phase = l.Text, l.End, last, 0, Runs
	if b.Phase != Begins {
		told.PC = b.PC + 1
	}
	if b.Phase == WaitsJ {
		told.Pattern = b.Pattern + "\n" + l.Text
	}
	return told
}

// foundByWords tells what is looked for by pattern i, and what is Used then.
func foundByWords(x script.Script, i, used int) ([]rx.Node, int) {
	isEmpty := rx.Text(x.Pats[i].Nodes) == "e"
	switch {
	case isEmpty && used == -1:
		return nil, -1
	case isEmpty:
		i = used
	}
	if x.Pats[i].Fold {
		return rx.Fold(x.Pats[i].Nodes), i
	}
	return x.Pats[i].Nodes, i
}

// flushByWords is what FLUSH puts.
func flushByWords(queue []Later, t []table.File) []Emit {
	var out []Emit
	for _, l := range queue {
		data, is := table.Get(t, l.Text)
		switch {
		case !l.File:
			out = append(out, Emit{l.Text, true})
		case is && data != "" && data[len(data)-1] == '\n':
			out = append(out, Emit{data[:len(data)-1], true})
		case is && data != "":
			out = append(out, Emit{data, false})
		}
	}
	return out
}

// stepByWords is P15.4, word by word.
func stepByWords(x script.Script, quiet bool, b Bank, t []table.File) (Bank, []table.File, []Emit) {
	if b.Phase != Runs {
		return b, t, nil
	}
	here := Emit{b.Pattern, b.End}
	var print []Emit
	if !quiet && !x.Quiet {
		print = []Emit{here}
	}
	flush := flushByWords(b.Queue, t)
	if b.PC == len(x.Cmds) {
		b.Queue, b.Phase = nil, Begins
		return b, t, append(print, flush...)
	}

	c := x.Cmds[b.PC]
	has := make([]bool, 1000)
	if c.R.A.Kind == addr.Rx {
		var p []rx.Node
		p, b.Used = foundByWords(x, c.R.A.N, b.Used)
		has[c.R.A.N] = find.Has(p, b.Pattern)
	}
	if c.R.B.Kind == addr.Rx {
		var p []rx.Node
		p, b.Used = foundByWords(x, c.R.B.N, b.Used)
		has[c.R.B.N] = find.Has(p, b.Pattern)
	}
	is, state := addr.Ask(c.R, b.Ranges[b.PC], addr.Line{N: b.N, Last: b.Last, Has: has})
	b.Ranges = slices.Clone(b.Ranges)
	b.Ranges[b.PC] = state
	pc := b.PC
	b.PC = pc + 1
	if !is && c.Op == '{' {
		b.PC = c.To + 1
	}
	if !is {
		return b, t, nil
	}

	line, rest, isTwo := strings.Cut(b.Pattern, "\n")
	text := c.Text[:max(0, len(c.Text)-1)]
	switch c.Op {
	case '{', '}':
	case '=':
		return b, t, []Emit{{strconv.Itoa(b.N), true}}
	case 'a':
		b.Queue = append(slices.Clone(b.Queue), Later{Text: text})
	case 'i':
		return b, t, []Emit{{text, true}}
	case 'c':
		b.Queue, b.Phase = nil, Begins
		if c.R.B.Kind == addr.Every || c.R.Not || !state.Open {
			return b, t, append([]Emit{{text, true}}, flush...)
		}
		return b, t, flush
	case 'b':
		b.PC = c.To
	case 't':
		if b.Changed {
			b.Changed, b.PC = false, c.To
		}
	case 'T':
		if !b.Changed {
			b.PC = c.To
		}
		b.Changed = false
	case 'd':
		b.Queue, b.Phase = nil, Begins
		return b, t, flush
	case 'D':
		b.Queue = nil
		if isTwo {
			b.Pattern, b.PC = rest, 0
		} else {
			b.Phase = Begins
		}
		return b, t, flush
	case 'g':
		b.Pattern = b.Hold
	case 'G':
		b.Pattern += "\n" + b.Hold
	case 'h':
		b.Hold = b.Pattern
	case 'H':
		b.Hold += "\n" + b.Pattern
	case 'x':
		b.Pattern, b.Hold = b.Hold, b.Pattern
	case 'l':
		width := c.N
		if width == -1 {
			width = 70
		}
		return b, t, []Emit{{strings.TrimSuffix(trans.List(b.Pattern, width), "\n"), true}}
	case 'n', 'N':
		b.Queue, b.PC = nil, pc
		switch {
		case b.Last:
			b.Phase = Over
		case c.Op == 'n':
			b.Phase = WaitsN
		default:
			b.Phase = WaitsJ
			return b, t, flush
		}
		return b, t, append(print, flush...)
	case 'p':
		return b, t, []Emit{here}
	case 'P':
		if isTwo {
			return b, t, []Emit{{line, true}}
		}
		return b, t, []Emit{here}
	case 'q':
		b.Queue, b.Phase, b.Code = nil, Over, c.N
		return b, t, append(print, flush...)
	case 'Q':
		b.Phase, b.Code = Over, c.N
	case 'r':
		b.Queue = append(slices.Clone(b.Queue), Later{Text: c.Text, File: true})
	case 'w':
		t = table.Add(t, c.Text, b.Pattern+"\n")
	case 's':
		var p []rx.Node
		p, b.Used = foundByWords(x, c.Pat, b.Used)
		now, n := subst.Sub(p, b.Pattern, c.Parts, c.N, c.All)
		if n == 0 {
			break
		}
		b.Pattern, b.Changed = now, true
		var out []Emit
		if c.Print {
			out = []Emit{{b.Pattern, b.End}}
		}
		if c.Text != "" {
			t = table.Add(t, c.Text, b.Pattern+"\n")
		}
		return b, t, out
	case 'y':
		m, _ := trans.Make(c.Text, c.Into)
		b.Pattern = trans.Apply(m, b.Pattern)
	default:
		panic("no command")
	}
	return b, t, nil
}

// chooser chooses by chance, but each time alike.
type chooser struct{ *rand.Rand }

func newChooser(seed uint64) chooser { return chooser{rand.New(rand.NewPCG(15, seed))} }

// one is one of l.
func (c chooser) one(l ...string) string { return l[c.IntN(len(l))] }

// in tells once in n times that it is so.
func (c chooser) in(n int) bool { return c.IntN(n) == 0 }

// address is one, or none.
func (c chooser) address() string {
	if c.in(2) {
		return ""
	}
	a := c.one("1", "2", "3", "$", "0~2", "1~2", "/a/", "/b/", "/A/I", "//", "//I", "/^$/", "/a\\nb/", "\\,b*,")
	if !c.in(3) {
		return a + c.one("", "", "!")
	}
	return a + "," + c.one("1", "2", "4", "$", "/a/", "/B/I", "//", "+1", "+2", "~2", "/^$/") + c.one("", "", "!")
}

// command is one, perhaps a block, without its labels.
func (c chooser) command(depth int) string {
	if c.in(8) && depth < 3 {
		return c.address() + "{\n" + c.command(depth+1) + c.command(depth+1) + "}\n"
	}
	if c.in(12) {
		return c.one("", "2", "$!", "/b/") + c.one("q", "q 3", "Q", "Q 4") + "\n"
	}
	return c.address() + c.one("=", "d", "D", "g", "G", "h", "H", "x", "n", "N", "p", "P", "l", "l 3", "l 0",
		"b", "bone", "btwo", "t", "tone", "ttwo", "T", "Tone", "Ttwo",
		"a\\\nx", "a\\\n\\\n", "i\\\nx\\\ny", "c\\\nz", "r f", "r g", "r none", "r h", "w h", "w f",
		"s/a/b/", "s//y/", "s//&&/g", "s/b*/x/2", "s/A/&c/gpI", "s/\\(.\\)\\n/\\1/", "s/b/a/pw h", "s/$/\\na/", "s//x/Iw g",
		"y/ab/ba/", "y/\\n/a/") + "\n"
}

// script is one of some commands, with two labels.
func (c chooser) script() string {
	lines := []string{":one\n", ":two\n"}
	for range 1 + c.IntN(5) {
		at := c.IntN(len(lines) + 1)
		lines = slices.Insert(lines, at, c.command(0))
	}
	return c.one("", "", "", "#n\n") + strings.Join(lines, "")
}

// told is a script by chance, and the text of it.
type told struct {
	chooser
	s string
	x script.Script
}

// scripts are those that are read, of n by chance; some are read with extended patterns.
func scripts(n uint64) iter.Seq[told] {
	return func(yield func(told) bool) {
		for seed := range n {
			c := newChooser(seed)
			s := c.script()
			x, _, e := script.Parse(s, c.in(4))
			if e == api.OK && !yield(told{c, s, x}) {
				return
			}
		}
	}
}

// text is one of some short lines, of which the last one perhaps has no byte 10.
func (c chooser) text() string {
	var all strings.Builder
	for range c.IntN(5) {
		all.WriteString(c.one("", "a", "b", "ab", "Ba", "aab", "c") + "\n")
	}
	return strings.TrimSuffix(all.String(), c.one("\n", ""))
}

// files is a table of some.
func (c chooser) files() []table.File {
	var t []table.File
	for _, name := range []string{"f", "g", "h"} {
		if !c.in(3) {
			t = table.Put(t, name, c.one("", "\n", "F", "F\nG\n", "\n\n"))
		}
	}
	return t
}

// play plays x over lines by step and give, up to its end, or for as many steps as tell enough.
func play(x script.Script, lines []table.Line, t []table.File, step func(Bank, []table.File) (Bank, []table.File, []Emit), give func(Bank, table.Line, bool) Bank) (Bank, []table.File, []Emit) {
	b := New(x)
	var out []Emit
	for range 70 {
		switch {
		case b.Phase == Runs:
			var puts []Emit
			b, t, puts = step(b, t)
			out = append(out, puts...)
		case len(lines) > 0:
			b = give(b, lines[0], len(lines) == 1)
			lines = lines[1:]
		default:
			b = Close(b)
		}
		// Longer ones tell no more than these do.
		if b.Phase == Over || len(b.Pattern) > 40 || len(b.Hold) > 40 {
			break
		}
	}
	return b, t, out
}

// Scripts by chance, over lines by chance: each step of them, and each line.
func TestP15_4ByChance(t *testing.T) {
	played, over := 0, 0
	for c := range scripts(30000) {
		s, x := c.s, c.x
		quiet, text, files := c.in(2), c.text(), c.files()
		at := func() string { return fmt.Sprintf("%q over %q, quiet %v, files %q", s, text, quiet, files) }
		b, _, _ := play(x, table.Split(text), files, func(b Bank, t0 []table.File) (Bank, []table.File, []Emit) {
			played++
			want, wantFiles, wantOut := stepByWords(x, quiet, b, t0)
			got, gotFiles, out := Step(x, quiet, b, t0)
			if !sameBank(got, want) || !slices.Equal(gotFiles, wantFiles) || !slices.Equal(out, wantOut) {
				t.Errorf("%s: step of %+v:\n got %+v %v %v\nwant %+v %v %v", at(), b, got, gotFiles, out, want, wantFiles, wantOut)
			}
			return got, gotFiles, out
		}, func(b Bank, l table.Line, last bool) Bank {
			want := giveByWords(b, l, last)
			got := Give(b, l, last)
			if !sameBank(got, want) {
				t.Errorf("%s: %v given to %+v:\n got %+v\nwant %+v", at(), l, b, got, want)
			}
			return got
		})
		if b.Phase == Over {
			over++
		}
		if t.Failed() {
			return
		}
	}
	if played < 200000 || over < 15000 {
		t.Errorf("only %d steps, and %d ends, were played", played, over)
	}
}

// What is handed in stays, and so does it when what was answered is written over.
func TestP15_4NothingIsChanged(t *testing.T) {
	for c := range scripts(3000) {
		s, x := c.s, c.x
		was := fmt.Sprintf("%#v", x)
		quiet := c.in(2)
		play(x, table.Split(c.text()), c.files(), func(b Bank, t0 []table.File) (Bank, []table.File, []Emit) {
			// Lists with more behind them are those that an append could write into.
			b.Ranges = slices.Grow(b.Ranges, 3)
			b.Queue = slices.Grow(b.Queue, 3)
			t0 = slices.Grow(t0, 3)
			wasBank, wasFiles := own(b), slices.Clone(t0)
			got, gotFiles, _ := Step(x, quiet, b, t0)
			next, nextFiles := own(got), slices.Clone(gotFiles)
			for i := range got.Ranges {
				got.Ranges[i] = addr.State{To: 77}
			}
			for i := range got.Queue {
				got.Queue[i].Text = "written over"
			}
			for i := range gotFiles {
				gotFiles[i].Data = "written over"
			}
			if !sameBank(b, wasBank) || !slices.Equal(t0, wasFiles) || fmt.Sprintf("%#v", x) != was {
				t.Errorf("%q: a step changed what was handed in, %+v", s, wasBank)
			}
			if again, againFiles, _ := Step(x, quiet, b, t0); !sameBank(again, next) || !slices.Equal(againFiles, nextFiles) {
				t.Errorf("%q: a step of %+v is another one, when it is done again", s, wasBank)
			}
			return next, nextFiles, nil
		}, Give)
		if t.Failed() {
			return
		}
	}
}

// N is how many lines were given.
func TestP15_5LinesThatWereGiven(t *testing.T) {
	for c := range scripts(5000) {
		s, x := c.s, c.x
		given := 0
		step := func(b Bank, t0 []table.File) (Bank, []table.File, []Emit) {
			got, gotFiles, out := Step(x, false, b, t0)
			if got.N != given {
				t.Errorf("%q: N is %d behind a step, %d lines were given", s, got.N, given)
			}
			return got, gotFiles, out
		}
		play(x, table.Split(c.text()), c.files(), step, func(b Bank, l table.Line, last bool) Bank {
			given++
			got := Give(b, l, last)
			if got.N != given {
				t.Errorf("%q: N is %d, %d lines were given", s, got.N, given)
			}
			return got
		})
		if t.Failed() {
			return
		}
	}
}

// What waits, or is over, does nothing; what is over, or runs, takes no line, and is not closed.
func TestP15_5WaitsOrIsOver(t *testing.T) {
	for c := range scripts(5000) {
		s, x := c.s, c.x
		check := func(b Bank, files []table.File) {
			got, gotFiles, out := Step(x, false, b, files)
			if b.Phase != Runs && (!sameBank(got, b) || !slices.Equal(gotFiles, files) || len(out) != 0) {
				t.Errorf("%q: %+v does something: %+v, %v, %v", s, b, got, gotFiles, out)
			}
			if got := Give(b, table.Line{Text: "x"}, true); (b.Phase == Runs || b.Phase == Over) && !sameBank(got, b) {
				t.Errorf("%q: %+v takes a line: %+v", s, b, got)
			}
			if got := Close(b); b.Phase != Begins && !sameBank(got, b) {
				t.Errorf("%q: %+v is closed: %+v", s, b, got)
			}
		}
		check(New(x), nil)
		play(x, table.Split(c.text()), c.files(), func(b Bank, t0 []table.File) (Bank, []table.File, []Emit) {
			got, gotFiles, out := Step(x, false, b, t0)
			check(b, t0)
			check(got, gotFiles)
			return got, gotFiles, out
		}, Give)
		if t.Failed() {
			return
		}
	}
}
