package bank

import (
	"fmt"
	"reflect"
	"slices"
	"strings"
	"testing"

	"calender/addr"
	"calender/api"
	"calender/script"
	"calender/table"
)

// parsed is the script that s tells, with basic patterns.
func parsed(t *testing.T, s string) script.Script {
	t.Helper()
	x, place, e := script.Parse(s, false)
	if e != api.OK {
		t.Fatalf("script %q: error %d at %d", s, e, place)
	}
	return x
}

// plain is b, in which lists without elements are nil.
func plain(b Bank) Bank {
	if len(b.Ranges) == 0 {
		b.Ranges = nil
	}
	if len(b.Queue) == 0 {
		b.Queue = nil
	}
	return b
}

// sameBank tells whether two banks are alike; lists without elements and nil lists are.
func sameBank(a, b Bank) bool { return reflect.DeepEqual(plain(a), plain(b)) }

// checkBank fails, unless got is want.
func checkBank(t *testing.T, what string, got, want Bank) {
	t.Helper()
	if !sameBank(got, want) {
		t.Errorf("%s:\n got %+v\nwant %+v", what, got, want)
	}
}

// checkStep fails, unless a step of x does what is wanted; its files are files.
func checkStep(t *testing.T, what string, x script.Script, quiet bool, b Bank, files []table.File, want Bank, wantFiles []table.File, wantOut []Emit) {
	t.Helper()
	got, gotFiles, out := Step(x, quiet, b, files)
	checkBank(t, what, got, want)
	if !slices.Equal(gotFiles, wantFiles) {
		t.Errorf("%s: files %q, want %q", what, gotFiles, wantFiles)
	}
	if !slices.Equal(out, wantOut) {
		t.Errorf("%s: out %v, want %v", what, out, wantOut)
	}
}

// full is a bank in which nothing is its zero value, for a script of n commands.
func full(phase, n int) Bank {
	b := Bank{
		Phase: phase, PC: 1, N: 3, Code: 5, Used: -1, Pattern: "one\ntwo", Hold: "held",
		End: true, Last: true, Changed: true,
		Ranges: make([]addr.State, n), Queue: []Later{{"later", false}, {"f", true}},
	}
	for i := range b.Ranges {
		b.Ranges[i] = addr.State{Open: true, To: 9 + i}
	}
	return b
}

func TestP15_1New(t *testing.T) {
	for s, n := range map[string]int{"": 0, "#n": 0, "p": 1, "2,4!{p;d}": 4, ":a;n;ba": 2, "/a/,/b/s//c/;a\\\nx": 2} {
		want := Bank{Phase: 0, Used: -1, Ranges: make([]addr.State, n)}
		checkBank(t, s, New(parsed(t, s)), want)
	}
}

func TestP15_1Phases(t *testing.T) {
	if got := [...]int{Begins, Runs, WaitsN, WaitsJ, Over}; got != [...]int{0, 1, 2, 3, 4} {
		t.Errorf("phases %v", got)
	}
}

func TestP15_1IsNew(t *testing.T) {
	x := parsed(t, "p;p")
	New(x).Ranges[0].Open = true
	checkBank(t, "written over", New(x), Bank{Used: -1, Ranges: make([]addr.State, 2)})
}

func TestP15_2Give(t *testing.T) {
	for _, line := range []table.Line{{Text: "", End: true}, {Text: "ab", End: true}, {Text: "ab"}} {
		for _, last := range []bool{false, true} {
			for phase := Begins; phase <= Over; phase++ {
				b := full(phase, 2)
				b.End, b.Last = !line.End, !last
				want := b
				switch phase {
				case Begins:
					want.PC, want.Pattern = 0, line.Text
				case WaitsN:
					want.PC, want.Pattern = 2, line.Text
				case WaitsJ:
					want.PC, want.Pattern = 2, "one\ntwo\n"+line.Text
				}
				if phase != Runs && phase != Over {
					want.Phase, want.N, want.End, want.Last = Runs, 4, line.End, last
				}
				checkBank(t, fmt.Sprintf("phase %d, line %v, last %v", phase, line, last), Give(b, line, last), want)
			}
		}
	}
}

func TestP15_2Close(t *testing.T) {
	for phase := Begins; phase <= Over; phase++ {
		want := full(phase, 2)
		if phase == Begins {
			want.Phase = Over
		}
		checkBank(t, fmt.Sprintf("phase %d", phase), Close(full(phase, 2)), want)
	}
}

func TestP15_2IsNew(t *testing.T) {
	calls := map[string]func(Bank) Bank{
		"Give":  func(b Bank) Bank { return Give(b, table.Line{Text: "x"}, true) },
		"Close": Close,
		"Step":  func(b Bank) Bank { got, _, _ := Step(script.Script{}, false, b, nil); return got },
	}
	for name, call := range calls {
		for phase := Begins; phase <= Over; phase++ {
			b := full(phase, 2)
			b.PC = 0
			want := full(phase, 2)
			want.PC = 0
			got := call(b)
			checkBank(t, name+": handed in", b, want)
			for i := range got.Ranges {
				got.Ranges[i] = addr.State{To: 77}
			}
			for i := range got.Queue {
				got.Queue[i] = Later{"written over", false}
			}
			_ = append(got.Ranges, addr.State{To: 78})
			checkBank(t, fmt.Sprintf("%s, phase %d: handed in, when the answer is written over", name, phase), b, want)
		}
	}
}

func TestP15_3Bytes(t *testing.T) {
	for _, c := range []struct {
		l    []Emit
		want string
	}{
		{nil, ""},
		{[]Emit{}, ""},
		{[]Emit{{"a", true}}, "a\n"},
		{[]Emit{{"a", false}}, "a"},
		{[]Emit{{"", true}}, "\n"},
		{[]Emit{{"", false}}, ""},
		{[]Emit{{"a", true}, {"b", true}}, "a\nb\n"},
		{[]Emit{{"a", false}, {"b", true}}, "a\nb\n"},
		{[]Emit{{"a", true}, {"b", false}}, "a\nb"},
		{[]Emit{{"a", false}, {"b", false}}, "a\nb"},
		{[]Emit{{"", false}, {"", false}}, "\n"},
		{[]Emit{{"", false}, {"", false}, {"", true}}, "\n\n\n"},
		{[]Emit{{"a\nb", false}, {"c\n", false}, {"d", true}}, "a\nb\nc\n\nd\n"},
	} {
		if got := Bytes(c.l); got != c.want {
			t.Errorf("%v: %q, want %q", c.l, got, c.want)
		}
	}
}

// Each text is a line of its own, and only the last one's byte 10 may not be there: all short lists.
func TestP15_3AllShortOnes(t *testing.T) {
	var each []Emit
	for _, text := range []string{"", "a", "\n", "b\n"} {
		each = append(each, Emit{text, false}, Emit{text, true})
	}
	var try func(l []Emit)
	try = func(l []Emit) {
		var want string
		for _, e := range l {
			want += e.Text + "\n"
		}
		if n := len(l); n > 0 && !l[n-1].End {
			want = strings.TrimSuffix(want, "\n")
		}
		if got := Bytes(l); got != want {
			t.Errorf("%v: %q, want %q", l, got, want)
		}
		if len(l) < 4 {
			for _, e := range each {
				try(append(l[:len(l):len(l)], e))
			}
		}
	}
	try(nil)
}
