package stage

import (
	"fmt"
	"iter"
	"maps"
	"math/rand/v2"
	"slices"
	"strings"
	"testing"

	"calender/api"
	"calender/bank"
	"calender/script"
	"calender/table"
)

// written tells the files that g writes, by its commands.
func written(g Stage) map[string]bool {
	names := map[string]bool{}
	for _, c := range g.Script.Cmds {
		if (c.Op == 'w' || c.Op == 's') && c.Text != "" {
			names[c.Text] = true
		}
	}
	return names
}

// read tells the files that g reads, by its commands and Files.
func read(g Stage) map[string]bool {
	names := map[string]bool{}
	for _, c := range g.Script.Cmds {
		if c.Op == 'r' {
			names[c.Text] = true
		}
	}
	for _, name := range g.Files {
		names[name] = true
	}
	return names
}

// beginByWords is P16.1, by a map of the files.
func beginByWords(g Stage, t []table.File) []table.File {
	if g.Bad {
		return t
	}
	files := map[string]string{}
	for _, f := range t {
		files[f.Name] = f.Data
	}
	for name := range written(g) {
		files[name] = ""
	}
	var all []table.File
	for _, name := range slices.Sorted(maps.Keys(files)) {
		all = append(all, table.File{Name: name, Data: files[name]})
	}
	return all
}

// linesByWords is P16.2: all files as one text, in which each that does not end by a byte 10 gets one, if there is more behind it.
func linesByWords(g Stage, in string, t []table.File) ([]table.Line, int) {
	if g.Bad {
		return nil, 0
	}
	all, status := "", 0
	for _, name := range g.Files {
		i := slices.IndexFunc(t, func(f table.File) bool { return f.Name == name })
		if i < 0 {
			status = 2
			continue
		}
		if all != "" && !strings.HasSuffix(all, "\n") && t[i].Data != "" {
			all += "\n"
		}
		all += t[i].Data
	}
	if len(g.Files) == 0 {
		all = in
	}
	var lines []table.Line
	for part := range strings.SplitAfterSeq(all, "\n") {
		if text, end := strings.CutSuffix(part, "\n"); part != "" {
			lines = append(lines, table.Line{Text: text, End: end})
		}
	}
	return lines, status
}

// runByWords is P16.3, word by word: each time it is asked what the bank is about to do.
func runByWords(g Stage, in string, t []table.File, fuel int) (End, api.Errno) {
	if g.Bad {
		return End{Table: t, Status: 1}, api.OK
	}
	end := End{Table: beginByWords(g, t)}
	lines, status := linesByWords(g, in, end.Table)
	b := bank.New(g.Script)
	given := 0
	for b.Phase != bank.Over {
		isRunning, isLeft := b.Phase == bank.Runs, given < len(lines)
		switch {
		case isRunning && end.Steps == max(fuel, 0):
			return End{}, api.ErrFuel
		case isRunning:
			var out []bank.Emit
			b, end.Table, out = bank.Step(g.Script, g.Quiet, b, end.Table)
			end.Out = slices.Concat(end.Out, out)
			end.Steps++
		case isLeft:
			given++
			b = bank.Give(b, lines[given-1], given == len(lines))
		default:
			b = bank.Close(b)
		}
	}
	end.Status = b.Code
	if end.Status == 0 {
		end.Status = status
	}
	return end, api.OK
}

// chooser chooses by chance, but each time alike.
type chooser struct{ *rand.Rand }

// one is one of l.
func (c chooser) one(l ...string) string { return l[c.IntN(len(l))] }

// in tells once in n times that it is so.
func (c chooser) in(n int) bool { return c.IntN(n) == 0 }

// command is one, perhaps a block.
func (c chooser) command(depth int) string {
	a := c.one("", "", "", "1", "2", "$", "$!", "2!", "0~2", "/a/", "/b/!", "/A/I", "//", "2,3", "1,/b/", "/a/,+1", "/b/,$!", "$,2")
	switch {
	case c.in(8) && depth < 3:
		return a + "{\n" + c.command(depth+1) + c.command(depth+1) + "}\n"
	case c.in(12):
		return c.one("2", "3", "$", "/b/") + c.one("q", "q 3", "Q", "Q 4") + "\n"
	}
	return a + c.one("=", "d", "D", "g", "G", "h", "H", "x", "n", "N", "p", "P", "l", "l 3",
		"b", "bhere", "t", "there", "T", "There", "a x", "i x\\\ny", "c z",
		"r f", "r g", "r none", "r new", "w new", "w f", "w h",
		"s/a/b/", "s/b*/x/2", "s/A/&c/gpI", "s/b/a/pw h", "s//y/w new", "s/$/\\na/", "y/ab/ba/") + "\n"
}

// stage is one of some commands, with a label, over some files; a few are Bad.
func (c chooser) stage() (Stage, string, bool) {
	lines := []string{":here\n"}
	for range c.IntN(6) {
		lines = slices.Insert(lines, c.IntN(len(lines)+1), c.command(0))
	}
	s := c.one("", "", "", "#n\n") + strings.Join(lines, "")
	x, _, e := script.Parse(s, c.in(2))
	g := Stage{Script: x, Quiet: c.in(3), Bad: c.in(20)}
	for range c.IntN(4) * c.IntN(2) {
		g.Files = append(g.Files, c.one("f", "g", "h", "new", "none", ""))
	}
	return g, s, e == api.OK
}

// text is one of some short lines, of which the last one perhaps has no byte 10.
func (c chooser) text() string {
	var all strings.Builder
	for range c.IntN(6) {
		all.WriteString(c.one("", "a", "b", "ab", "Ba", "c") + "\n")
	}
	return strings.TrimSuffix(all.String(), c.one("\n", ""))
}

// files is a table of some.
func (c chooser) files() []table.File {
	var t []table.File
	for _, name := range []string{"f", "g", "h"} {
		if !c.in(3) {
			t = append(t, table.File{Name: name, Data: c.text()})
		}
	}
	return t
}

// played is a stage by chance, and what it is played over.
type played struct {
	Stage
	told, in string
	files    []table.File
}

func (p played) String() string {
	return fmt.Sprintf("%q (quiet %v, bad %v, over %q) over %q, with %q", p.told, p.Quiet, p.Bad, p.Files, p.in, p.files)
}

// stages are those, of n by chance, whose scripts are read, and whose spaces stay short.
func stages(n uint64) iter.Seq[played] {
	return func(yield func(played) bool) {
		for seed := range n {
			c := chooser{rand.New(rand.NewPCG(16, seed))}
			g, s, is := c.stage()
			p := played{g, s, c.text(), c.files()}
			if is && p.staysShort() && !yield(p) {
				return
			}
		}
	}
}

// mostSteps is how many steps tell enough.
const mostSteps = 70

// staysShort tells whether the spaces have at most 40 bytes as far as the stage is played.
func (p played) staysShort() bool {
	t := beginByWords(p.Stage, p.files)
	lines, _ := linesByWords(p.Stage, p.in, t)
	b := bank.New(p.Script)
	for range mostSteps {
		switch {
		case b.Phase == bank.Runs:
			b, t, _ = bank.Step(p.Script, p.Quiet, b, t)
		case len(lines) > 0:
			b = bank.Give(b, lines[0], len(lines) == 1)
			lines = lines[1:]
		default:
			return true
		}
		if len(b.Pattern) > 40 || len(b.Hold) > 40 {
			return false
		}
	}
	return true
}

func TestP16_1BeginByChance(t *testing.T) {
	for p := range stages(10000) {
		if got, want := Begin(p.Stage, p.files), beginByWords(p.Stage, p.files); !slices.Equal(got, want) || !table.May(got) {
			t.Fatalf("%v: %q, want %q", p, got, want)
		}
	}
}

func TestP16_2LinesByChance(t *testing.T) {
	for p := range stages(10000) {
		got, status := Lines(p.Stage, p.in, p.files)
		if want, wantStatus := linesByWords(p.Stage, p.in, p.files); !slices.Equal(got, want) || status != wantStatus {
			t.Fatalf("%v: %v, %d, want %v, %d", p, got, status, want, wantStatus)
		}
	}
}

func TestP16_3RunByChance(t *testing.T) {
	ends, fuels, ofFiles := 0, 0, 0
	for p := range stages(20000) {
		for _, fuel := range []int{-1, 0, 1, 2, 5, 10, 20, mostSteps} {
			got, e := Run(p.Stage, p.in, p.files, fuel)
			if want, wantE := runByWords(p.Stage, p.in, p.files, fuel); e != wantE || !sameEnd(got, want) {
				t.Fatalf("%v, fuel %d:\n got %+v, error %d\nwant %+v, error %d", p, fuel, got, e, want, wantE)
			}
			if e == api.OK {
				ends++
			} else {
				fuels++
			}
			if len(p.Files) > 0 {
				ofFiles++
			}
		}
	}
	if ends < 40000 || fuels < 40000 || ofFiles < 30000 {
		t.Errorf("only %d ends, %d without fuel, and %d over files were played", ends, fuels, ofFiles)
	}
}

func TestP16_4PathsByChance(t *testing.T) {
	for p := range stages(10000) {
		reads, writes := Paths(p.Stage)
		wantReads, wantWrites := slices.Sorted(maps.Keys(read(p.Stage))), slices.Sorted(maps.Keys(written(p.Stage)))
		if p.Bad {
			wantReads, wantWrites = nil, nil
		}
		if !slices.Equal(reads, wantReads) || !slices.Equal(writes, wantWrites) {
			t.Fatalf("%v: %q and %q, want %q and %q", p, reads, writes, wantReads, wantWrites)
		}
	}
}

// With more fuel an end stays the same: there is one for all that is at least its steps, and none for what is less.
func TestP16_5MoreFuel(t *testing.T) {
	for p := range stages(4000) {
		end, e := Run(p.Stage, p.in, p.files, mostSteps)
		if e != api.OK {
			continue
		}
		for fuel := -2; fuel <= mostSteps; fuel++ {
			want, wantE := end, api.OK
			if fuel < end.Steps && end.Steps > 0 {
				want, wantE = End{}, api.ErrFuel
			}
			if got, e := Run(p.Stage, p.in, p.files, fuel); e != wantE || !sameEnd(got, want) {
				t.Fatalf("%v, fuel %d:\n got %+v, error %d\nwant %+v, error %d", p, fuel, got, e, want, wantE)
			}
		}
		for _, fuel := range []int{mostSteps + 1, 1000, api.MaxFuel, 1 << 40} {
			if got, e := Run(p.Stage, p.in, p.files, fuel); e != api.OK || !sameEnd(got, end) {
				t.Fatalf("%v, fuel %d:\n got %+v, error %d\nwant %+v", p, fuel, got, e, end)
			}
		}
	}
}

// What is handed in stays, also when what was answered is written over.
func TestP16NothingIsChanged(t *testing.T) {
	for p := range stages(4000) {
		files := slices.Grow(slices.Clone(p.files), 5)
		was := fmt.Sprintf("%#v %#v %#v", p.Stage, files, files[:cap(files)])
		begun := Begin(p.Stage, files)
		end, _ := Run(p.Stage, p.in, files, mostSteps)
		reads, writes := Paths(p.Stage)
		for i := range begun {
			begun[i].Data = "written over"
		}
		for i := range end.Table {
			end.Table[i].Data = "written over"
		}
		for _, l := range [][]string{reads, writes} {
			for i := range l {
				l[i] = "written over"
			}
		}
		if now := fmt.Sprintf("%#v %#v %#v", p.Stage, files, files[:cap(files)]); now != was {
			t.Fatalf("%v: changed\nfrom %s\n  to %s", p, was, now)
		}
	}
}
