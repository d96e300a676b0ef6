package addr

import (
	"math"
	"math/rand/v2"
	"regexp"
	"slices"
	"strconv"
	"strings"
	"testing"

	"calender/api"
)

var (
	every = Addr{}
	last  = Addr{Kind: Last}
)

func num(n int) Addr     { return Addr{Kind: Number, N: n} }
func step(n, m int) Addr { return Addr{Kind: Step, N: n, M: m} }
func pat(n int) Addr     { return Addr{Kind: Rx, N: n} }
func plus(n int) Addr    { return Addr{Kind: Plus, N: n} }
func round(n int) Addr   { return Addr{Kind: Round, N: n} }

// extremes are numbers that are hard to count by.
func extremes() []int {
	return []int{math.MinInt, math.MinInt + 1, -api.MaxNumber, -2, -1, 0, 1, 2, 3, 7, 999, 1000, api.MaxNumber, api.MaxNumber + 1, math.MaxInt - 1, math.MaxInt}
}

// addrsOf are the addresses of all kinds, and two that are none, with each of numbers as N, and as M.
func addrsOf(numbers ...int) []Addr {
	var all []Addr
	for kind := Every - 1; kind <= Round+1; kind++ {
		for _, n := range numbers {
			for _, m := range numbers {
				all = append(all, Addr{kind, n, m})
			}
		}
	}
	return all
}

// statesOf are all states with each of numbers as To.
func statesOf(numbers ...int) []State {
	var all []State
	for _, to := range numbers {
		all = append(all, State{false, to}, State{true, to})
	}
	return all
}

// linesOf are lines with each of numbers, last and not, and with several patterns.
func linesOf(numbers ...int) []Line {
	var all []Line
	for _, n := range numbers {
		for _, isLast := range []bool{false, true} {
			all = append(all, Line{n, isLast, nil}, Line{n, isLast, []bool{true}}, Line{n, isLast, []bool{false, true}})
		}
	}
	return all
}

func TestP11_1Kinds(t *testing.T) {
	for i, kind := range []int{Every, Number, Last, Step, Rx, Plus, Round} {
		if kind != i {
			t.Errorf("%v: %v", i, kind)
		}
	}
}

func TestP11_1May(t *testing.T) {
	for _, r := range []Range{
		{}, {Not: true}, {A: num(1)}, {A: num(api.MaxNumber), Not: true}, {A: last}, {A: step(0, 0)}, {A: step(0, 4)}, {A: step(api.MaxNumber, api.MaxNumber)}, {A: pat(0)}, {A: pat(999)},
		{A: num(2), B: num(4)}, {A: num(4), B: num(2)}, {A: num(4), B: num(0)}, {A: num(1), B: last}, {A: num(1), B: pat(999)}, {A: num(1), B: plus(0)}, {A: num(1), B: plus(api.MaxNumber)}, {A: num(1), B: round(0)}, {A: num(1), B: round(api.MaxNumber)},
		{A: last, B: num(1)}, {A: last, B: last, Not: true}, {A: step(0, 2), B: plus(1)}, {A: step(0, 0), B: num(3)}, {A: pat(0), B: pat(1)}, {A: pat(1), B: round(4)}, {A: pat(1), B: num(0)},
		// What stands ahead of all lines goes up to a pattern only.
		{A: num(0), B: pat(0)}, {A: num(0), B: pat(999), Not: true},
	} {
		if !May(r) {
			t.Errorf("%v may not be", r)
		}
	}
}

func TestP11_1MayNot(t *testing.T) {
	for _, r := range []Range{
		{A: num(0)}, {A: num(0), Not: true}, {A: num(0), B: num(1)}, {A: num(0), B: num(0)}, {A: num(0), B: last}, {A: num(0), B: plus(1)}, {A: num(0), B: round(1)},
		{A: plus(1)}, {A: plus(0)}, {A: round(1)}, {A: plus(1), B: num(2)}, {A: round(0), B: pat(0)}, {A: every, B: num(1)}, {A: every, B: last}, {A: every, B: pat(0)}, {A: every, B: plus(1)},
		{A: num(1), B: step(1, 2)}, {A: num(0), B: step(0, 0)}, {A: pat(0), B: step(0, 0)}, {A: every, B: step(1, 2)},
		// Numbers that no address of that kind has.
		{A: num(-1)}, {A: num(api.MaxNumber + 1)}, {A: num(math.MaxInt)}, {A: num(math.MinInt)}, {A: step(-1, 2)}, {A: step(2, -1)}, {A: step(api.MaxNumber+1, 0)}, {A: step(0, api.MaxNumber+1)}, {A: pat(-1)}, {A: pat(1000)}, {A: num(0), B: pat(1000)},
		{A: num(1), B: num(-1)}, {A: num(1), B: num(api.MaxNumber + 1)}, {A: num(1), B: plus(-1)}, {A: num(1), B: plus(api.MaxNumber + 1)}, {A: num(1), B: round(-1)}, {A: num(1), B: round(api.MaxNumber + 1)}, {A: num(1), B: pat(-1)}, {A: num(1), B: pat(1000)},
		// Numbers that are not named are 0.
		{A: Addr{Every, 1, 0}}, {A: Addr{Every, 0, 1}}, {A: Addr{Number, 1, 1}}, {A: Addr{Last, 1, 0}}, {A: Addr{Last, 0, 1}}, {A: Addr{Rx, 1, 1}}, {A: num(1), B: Addr{Every, 1, 0}}, {A: num(1), B: Addr{Every, 0, -1}}, {A: num(1), B: Addr{Number, 2, 1}},
		{A: num(1), B: Addr{Last, 2, 0}}, {A: num(1), B: Addr{Rx, 2, 1}}, {A: num(1), B: Addr{Plus, 2, 1}}, {A: num(1), B: Addr{Round, 2, 1}}, {A: num(1), B: Addr{Round, 2, -1}},
		// Kinds that are none.
		{A: Addr{Kind: -1}}, {A: Addr{Kind: 7}}, {A: Addr{Kind: math.MaxInt}}, {A: Addr{Kind: math.MinInt}}, {A: num(1), B: Addr{Kind: -1}}, {A: num(1), B: Addr{Kind: 7}},
	} {
		if May(r) {
			t.Errorf("%v may be", r)
		}
	}
}

// naiveIsAddr is the chapter's word of what an address is.
func naiveIsAddr(a Addr) bool {
	isNumber := func(n int) bool { return 0 <= n && n <= 999999999 }
	switch a.Kind {
	case 0, 2:
		return a.N == 0 && a.M == 0
	case 1, 5, 6:
		return isNumber(a.N) && a.M == 0
	case 3:
		return isNumber(a.N) && isNumber(a.M)
	case 4:
		return 0 <= a.N && a.N <= 999 && a.M == 0
	}
	return false
}

// naiveMay is the chapter's May.
func naiveMay(r Range) bool {
	is := naiveIsAddr(r.A) && naiveIsAddr(r.B)
	is = is && r.A.Kind != Plus && r.A.Kind != Round
	is = is && (r.A.Kind != Every || r.B.Kind == Every)
	is = is && (r.A != num(0) || r.B.Kind == Rx)
	return is && r.B.Kind != Step
}

func TestP11_1AllKinds(t *testing.T) {
	all := addrsOf(-1, 0, 1, 999, 1000, api.MaxNumber, api.MaxNumber+1)
	for _, a := range all {
		for _, b := range all {
			for _, isNot := range []bool{false, true} {
				if r := (Range{a, b, isNot}); May(r) != naiveMay(r) {
					t.Fatalf("%v: %v", r, May(r))
				}
			}
		}
	}
}

func TestP11_2Hits(t *testing.T) {
	third := []bool{false, false, true}
	for _, x := range []struct {
		a    Addr
		l    Line
		want bool
	}{
		{every, Line{}, true}, {every, Line{N: 5}, true}, {every, Line{N: 5, Last: true, Has: third}, true},
		{num(3), Line{N: 3}, true}, {num(3), Line{N: 2}, false}, {num(3), Line{N: 4}, false}, {num(3), Line{N: 4, Last: true}, false}, {num(0), Line{N: 1}, false}, {num(0), Line{N: 0}, true}, {num(api.MaxNumber), Line{N: api.MaxNumber}, true},
		{last, Line{N: 1, Last: true}, true}, {last, Line{N: 1}, false}, {last, Line{}, false},
		{step(1, 2), Line{N: 1}, true}, {step(1, 2), Line{N: 2}, false}, {step(1, 2), Line{N: 3}, true}, {step(2, 3), Line{N: 1}, false}, {step(2, 3), Line{N: 2}, true}, {step(2, 3), Line{N: 5}, true}, {step(2, 3), Line{N: 6}, false}, {step(5, 2), Line{N: 3}, false},
		{step(0, 4), Line{N: 4}, true}, {step(0, 4), Line{N: 8}, true}, {step(0, 4), Line{N: 2}, false}, {step(0, 4), Line{N: 0}, true}, {step(0, 1), Line{N: 7}, true}, {step(10, 1), Line{N: 9}, false}, {step(10, 20), Line{N: 30}, true},
		// Of no steps the first line alone.
		{step(3, 0), Line{N: 3}, true}, {step(3, 0), Line{N: 2}, false}, {step(3, 0), Line{N: 4}, false}, {step(3, 0), Line{N: 6}, false}, {step(0, 0), Line{N: 1}, false}, {step(0, 0), Line{N: 0}, true},
		{pat(2), Line{N: 1, Has: third}, true}, {pat(0), Line{N: 1, Has: third}, false}, {pat(1), Line{N: 1, Has: third}, false}, {pat(3), Line{N: 1, Has: third}, false}, {pat(0), Line{N: 1}, false}, {pat(0), Line{N: 1, Has: []bool{true}}, true}, {pat(999), Line{N: 1, Has: third}, false},
		{pat(-1), Line{N: 1, Has: third}, false}, {pat(math.MinInt), Line{Has: third}, false}, {pat(math.MaxInt), Line{Has: third}, false},
		// Others stand behind another address only.
		{plus(0), Line{N: 0, Last: true}, false}, {plus(1), Line{N: 1, Last: true, Has: third}, false}, {round(1), Line{N: 1, Last: true, Has: third}, false}, {round(0), Line{N: 0}, false},
		{Addr{Kind: -1}, Line{N: 1, Last: true}, false}, {Addr{Kind: 7}, Line{N: 1, Last: true}, false}, {Addr{Kind: math.MinInt}, Line{}, false}, {Addr{Kind: math.MaxInt}, Line{}, false},
		// Numbers far from one another, or below 0.
		{step(math.MinInt, 1), Line{N: math.MaxInt}, true}, {step(math.MinInt, 2), Line{N: math.MaxInt}, false}, {step(math.MinInt, 3), Line{N: math.MaxInt}, true}, {step(math.MinInt, -2), Line{N: math.MaxInt - 1}, false}, {step(math.MaxInt, 1), Line{N: math.MinInt}, false}, {step(-3, 2), Line{N: 5}, true}, {step(-3, 2), Line{N: 4}, false}, {step(5, -2), Line{N: 3}, false}, {step(5, -2), Line{N: 7}, false}, {step(5, -2), Line{N: 5}, true},
		{step(5, math.MinInt), Line{N: 5}, true}, {num(-1), Line{N: -1}, true},
	} {
		if got := Hits(x.a, x.l); got != x.want {
			t.Errorf("%v %v: %v", x.a, x.l, got)
		}
	}
}

// naiveHits is the chapter's Hits, whose steps are gone one by one.
func naiveHits(a Addr, l Line) bool {
	switch a.Kind {
	case Every:
		return true
	case Number:
		return l.N == a.N
	case Last:
		return l.Last
	case Step:
		for n := a.N; n <= l.N; n += a.M {
			if n == l.N {
				return true
			}
			if a.M <= 0 {
				break
			}
		}
	case Rx:
		for i, is := range l.Has {
			if i == a.N {
				return is
			}
		}
	}
	return false
}

func TestP11_2AllSmallOnes(t *testing.T) {
	for _, a := range addrsOf(-3, -2, -1, 0, 1, 2, 3, 4, 5, 6, 7) {
		for _, l := range linesOf(-1, 0, 1, 2, 3, 4, 5, 6, 7, 8, 9, 10, 11, 12) {
			if got, want := Hits(a, l), naiveHits(a, l); got != want {
				t.Fatalf("%v %v: %v", a, l, got)
			}
		}
	}
}

// meant are the numbers of the lines, one for each element of has, that r means, one behind the other; has tells as digits which patterns are found.
func meant(r Range, has ...string) []int {
	var s State
	var is bool
	var all []int
	for i, digits := range has {
		l := Line{i + 1, i == len(has)-1, make([]bool, 10)}
		for _, digit := range digits {
			l.Has[digit-'0'] = true
		}
		if is, s = Ask(r, s, l); is {
			all = append(all, i+1)
		}
	}
	return all
}

func TestP11_3Lines(t *testing.T) {
	five, ten := make([]string, 5), make([]string, 10)
	for _, x := range []struct {
		r    Range
		has  []string
		want []int
	}{
		{Range{}, five, []int{1, 2, 3, 4, 5}}, {Range{Not: true}, five, nil}, {Range{A: num(2)}, five, []int{2}}, {Range{A: num(2), Not: true}, five, []int{1, 3, 4, 5}}, {Range{A: last}, five, []int{5}}, {Range{A: last, Not: true}, five, []int{1, 2, 3, 4}},
		{Range{A: step(1, 2)}, five, []int{1, 3, 5}}, {Range{A: step(0, 3)}, ten, []int{3, 6, 9}}, {Range{A: step(4, 0)}, five, []int{4}}, {Range{A: pat(1)}, []string{"0", "1", "01", ""}, []int{2, 3}},
		{Range{A: num(2), B: num(4)}, five, []int{2, 3, 4}}, {Range{A: num(2), B: num(4), Not: true}, five, []int{1, 5}}, {Range{A: num(1), B: num(1)}, five, []int{1}}, {Range{A: num(4), B: num(2)}, five, []int{4}}, {Range{A: num(4), B: num(0)}, five, []int{4}}, {Range{A: num(4), B: num(9)}, five, []int{4, 5}}, {Range{A: num(9), B: num(10)}, five, nil},
		{Range{A: num(3), B: last}, five, []int{3, 4, 5}}, {Range{A: last, B: last}, five, []int{5}}, {Range{A: last, B: num(1)}, five, []int{5}}, {Range{A: num(1), B: last, Not: true}, five, nil},
		{Range{A: num(2), B: plus(2)}, five, []int{2, 3, 4}}, {Range{A: num(2), B: plus(0)}, five, []int{2}}, {Range{A: num(2), B: plus(9)}, five, []int{2, 3, 4, 5}}, {Range{A: step(1, 4), B: plus(1)}, ten, []int{1, 2, 5, 6, 9, 10}}, {Range{A: step(1, 1), B: plus(2)}, five, []int{1, 2, 3, 4, 5}},
		{Range{A: num(2), B: round(4)}, ten, []int{2, 3, 4}}, {Range{A: num(4), B: round(4)}, ten, []int{4}}, {Range{A: num(5), B: round(4)}, ten, []int{5, 6, 7, 8}}, {Range{A: num(5), B: round(0)}, ten, []int{5}}, {Range{A: num(5), B: round(1)}, ten, []int{5}}, {Range{A: num(2), B: round(100)}, five, []int{2, 3, 4, 5}},
		// The first line is not asked for the end, the others are; and what has ended begins again.
		{Range{A: pat(0), B: pat(1)}, []string{"", "0", "", "1", "", "0", "1", ""}, []int{2, 3, 4, 6, 7}}, {Range{A: pat(0), B: pat(1)}, []string{"01", "", "01", "", "0"}, []int{1, 2, 3, 5}}, {Range{A: pat(0), B: pat(0)}, []string{"0", "", "0", "0", ""}, []int{1, 2, 3, 4, 5}}, {Range{A: pat(0), B: pat(1)}, []string{"1", "1", ""}, nil},
		{Range{A: pat(0), B: num(3)}, []string{"", "0", "", "", "0", "0"}, []int{2, 3, 5, 6}}, {Range{A: pat(0), B: num(3)}, []string{"0", "0", "0", "0"}, []int{1, 2, 3, 4}}, {Range{A: pat(0), B: last}, []string{"", "0", "0", ""}, []int{2, 3, 4}}, {Range{A: step(2, 2), B: pat(1)}, []string{"1", "1", "", "1", "", "1", "1"}, []int{2, 3, 4, 6, 7}},
		// Ahead of the first line it began already, so that one may end it.
		{Range{A: num(0), B: pat(1)}, []string{"1", "", "1"}, []int{1}}, {Range{A: num(0), B: pat(1)}, []string{"", "", "1", "1"}, []int{1, 2, 3}}, {Range{A: num(1), B: pat(1)}, []string{"1", "", "1", ""}, []int{1, 2, 3}}, {Range{A: num(0), B: pat(1), Not: true}, []string{"", "1", "", ""}, []int{3, 4}}, {Range{A: num(0), B: pat(1)}, []string{"", ""}, []int{1, 2}},
	} {
		if got := meant(x.r, x.has...); !slices.Equal(got, x.want) {
			t.Errorf("%v %q: %v", x.r, x.has, got)
		}
	}
}

func TestP11_3States(t *testing.T) {
	zeroth := []bool{true}
	for _, x := range []struct {
		r    Range
		s    State
		l    Line
		is   bool
		next State
	}{
		// Of one address the state stays, whatever it is.
		{Range{}, State{}, Line{N: 1}, true, State{}}, {Range{A: num(2)}, State{true, 7}, Line{N: 2}, true, State{true, 7}}, {Range{A: num(2)}, State{true, 1}, Line{N: 3}, false, State{true, 1}}, {Range{A: last, Not: true}, State{false, 3}, Line{N: 3, Last: true}, false, State{false, 3}}, {Range{A: num(0)}, State{}, Line{N: 1}, false, State{}},
		// It begins.
		{Range{A: num(2), B: num(4)}, State{}, Line{N: 2}, true, State{true, 4}}, {Range{A: num(2), B: num(2)}, State{}, Line{N: 2}, true, State{}}, {Range{A: num(2), B: num(1)}, State{false, 9}, Line{N: 2}, true, State{}}, {Range{A: num(2), B: last}, State{false, 9}, Line{N: 2}, true, State{true, 0}}, {Range{A: num(2), B: last}, State{false, 9}, Line{N: 2, Last: true}, true, State{}},
		{Range{A: num(2), B: pat(0)}, State{false, 9}, Line{N: 2}, true, State{true, 0}}, {Range{A: num(2), B: pat(0)}, State{}, Line{N: 2, Has: zeroth}, true, State{true, 0}}, {Range{A: num(2), B: pat(0)}, State{}, Line{N: 2, Last: true}, true, State{true, 0}},
		{Range{A: num(2), B: plus(3)}, State{}, Line{N: 2}, true, State{true, 5}}, {Range{A: num(2), B: plus(0)}, State{false, 9}, Line{N: 2}, true, State{}}, {Range{A: num(2), B: plus(-3)}, State{}, Line{N: 2}, true, State{}}, {Range{A: num(2), B: plus(api.MaxNumber)}, State{}, Line{N: 2}, true, State{true, api.MaxNumber + 2}},
		{Range{A: num(2), B: round(3)}, State{}, Line{N: 2}, true, State{true, 3}}, {Range{A: num(6), B: round(3)}, State{false, 9}, Line{N: 6}, true, State{}}, {Range{A: num(7), B: round(3)}, State{}, Line{N: 7}, true, State{true, 9}}, {Range{A: num(7), B: round(0)}, State{false, 9}, Line{N: 7}, true, State{}}, {Range{A: num(7), B: round(-3)}, State{}, Line{N: 7}, true, State{}},
		{Range{A: num(-7), B: round(3)}, State{}, Line{N: -7}, true, State{true, -6}}, {Range{A: num(1), B: round(api.MaxNumber)}, State{}, Line{N: 1}, true, State{true, api.MaxNumber}}, {Range{A: num(1), B: step(3, 2)}, State{false, 9}, Line{N: 1}, true, State{}}, {Range{A: num(1), B: Addr{Kind: 7, N: 3}}, State{false, 9}, Line{N: 1}, true, State{}},
		// It does not begin.
		{Range{A: num(2), B: num(4)}, State{}, Line{N: 3}, false, State{}}, {Range{A: num(2), B: num(4)}, State{false, 9}, Line{N: 3}, false, State{false, 9}}, {Range{A: num(0), B: pat(0)}, State{false, 9}, Line{N: 2, Has: zeroth}, false, State{false, 9}}, {Range{A: plus(1), B: num(4)}, State{}, Line{N: 1}, false, State{}},
		// It goes on, and ends.
		{Range{A: num(2), B: num(4)}, State{true, 4}, Line{N: 3}, true, State{true, 4}}, {Range{A: num(2), B: num(4)}, State{true, 4}, Line{N: 4}, true, State{}}, {Range{A: num(2), B: num(4)}, State{true, 4}, Line{N: 2}, true, State{true, 4}}, {Range{A: num(2), B: last}, State{true, 0}, Line{N: 3}, true, State{true, 0}}, {Range{A: num(2), B: last}, State{true, 0}, Line{N: 3, Last: true}, true, State{}},
		{Range{A: num(2), B: last}, State{true, 1}, Line{N: 3}, true, State{true, 1}}, {Range{A: num(2), B: pat(0)}, State{true, 0}, Line{N: 3}, true, State{true, 0}}, {Range{A: num(2), B: pat(0)}, State{true, 0}, Line{N: 3, Last: true}, true, State{true, 0}}, {Range{A: num(2), B: pat(0)}, State{true, 9}, Line{N: 3, Has: zeroth}, true, State{}},
		{Range{A: num(2), B: plus(3)}, State{true, 5}, Line{N: 4}, true, State{true, 5}}, {Range{A: num(2), B: plus(3)}, State{true, 5}, Line{N: 5}, true, State{}}, {Range{A: num(2), B: round(4)}, State{true, 4}, Line{N: 3}, true, State{true, 4}}, {Range{A: num(2), B: round(4)}, State{true, 4}, Line{N: 4}, true, State{}},
		// Lines were not asked: a Number ended it ahead of this one; others end it here.
		{Range{A: num(2), B: num(4)}, State{true, 4}, Line{N: 5}, false, State{}}, {Range{A: num(2), B: num(4), Not: true}, State{true, 4}, Line{N: 5}, true, State{}}, {Range{A: pat(0), B: num(4)}, State{true, 4}, Line{N: 5, Has: zeroth}, true, State{}}, {Range{A: num(2), B: num(9)}, State{true, 4}, Line{N: 5}, false, State{}}, {Range{A: step(1, 2), B: num(9)}, State{true, 4}, Line{N: 5}, true, State{}},
		{Range{A: num(2), B: plus(3)}, State{true, 5}, Line{N: 7}, true, State{}}, {Range{A: num(2), B: round(4)}, State{true, 4}, Line{N: 7}, true, State{}}, {Range{A: num(2), B: step(0, 0)}, State{true, 4}, Line{N: 7}, true, State{}},
		// Ahead of the first line it is open already.
		{Range{A: num(0), B: pat(0)}, State{}, Line{N: 1}, true, State{true, 0}}, {Range{A: num(0), B: pat(0)}, State{}, Line{N: 1, Has: zeroth}, true, State{}}, {Range{A: num(0), B: pat(0)}, State{false, 9}, Line{N: 1}, true, State{true, 0}}, {Range{A: num(0), B: pat(0), Not: true}, State{}, Line{N: 1}, false, State{true, 0}}, {Range{A: num(0), B: last}, State{false, 9}, Line{N: 1}, true, State{true, 0}},
		{Range{A: num(0), B: num(3)}, State{}, Line{N: 1}, false, State{}}, {Range{A: num(0), B: plus(3)}, State{}, Line{N: 1}, true, State{}}, {Range{A: num(0), B: pat(0)}, State{true, 9}, Line{N: 1}, true, State{true, 9}}, {Range{A: num(0), B: pat(0)}, State{}, Line{N: 0}, true, State{true, 0}}, {Range{A: step(0, 0), B: pat(0)}, State{}, Line{N: 1}, false, State{}},
	} {
		if is, next := Ask(x.r, x.s, x.l); is != x.is || next != x.next {
			t.Errorf("%v %v %v: %v %v", x.r, x.s, x.l, is, next)
		}
	}
}

// naiveBegin is the chapter's state behind a line by which a range up to b begins.
func naiveBegin(b Addr, l Line) State {
	switch {
	case b.Kind == Number && b.N > l.N:
		return State{true, b.N}
	case b.Kind == Last && !l.Last, b.Kind == Rx:
		return State{true, 0}
	case b.Kind == Plus && b.N > 0:
		return State{true, l.N + b.N}
	case b.Kind == Round && b.N > 0 && l.N%b.N != 0:
		to := l.N
		for to%b.N != 0 {
			to++
		}
		return State{true, to}
	}
	return State{}
}

// naiveAsk is the chapter's Ask.
func naiveAsk(r Range, s State, l Line) (bool, State) {
	is, isOpen, to := false, s.Open, s.To
	if r.B.Kind == Every {
		return naiveHits(r.A, l) != r.Not, s
	}
	if !isOpen && r.A.Kind == Number && r.A.N == 0 && l.N == 1 {
		isOpen, to = true, 0
	}
	if !isOpen {
		if is = naiveHits(r.A, l); is {
			s = naiveBegin(r.B, l)
		}
		return is != r.Not, s
	}
	is, s = true, State{true, to}
	isEnd := l.N >= to
	if r.B.Kind == Last {
		isEnd = l.Last
	} else if r.B.Kind == Rx {
		isEnd = naiveHits(r.B, l)
	} else if r.B.Kind == Number && l.N > to {
		is = naiveHits(r.A, l)
	}
	if isEnd {
		s = State{}
	}
	return is != r.Not, s
}

func TestP11_3AllSmallOnes(t *testing.T) {
	all := addrsOf(-2, 0, 1, 2, 3)
	states := statesOf(-1, 0, 1, 2, 3, 4)
	lines := linesOf(-1, 0, 1, 2, 3, 4)
	for _, a := range all {
		for _, b := range all {
			for _, s := range states {
				for _, l := range lines {
					r := Range{A: a, B: b}
					is, next := Ask(r, s, l)
					if want, wantNext := naiveAsk(r, s, l); is != want || next != wantNext {
						t.Fatalf("%v %v %v: %v %v, not %v %v", r, s, l, is, next, want, wantNext)
					}
				}
			}
		}
	}
}

func TestP11_3RowsByChance(t *testing.T) {
	r := rand.New(rand.NewPCG(11, 3))
	addr := func(kinds ...int) Addr {
		a := Addr{Kind: kinds[r.IntN(len(kinds))], N: r.IntN(9)}
		if a.Kind == Step {
			a.M = r.IntN(5)
		}
		return a
	}
	for range 20000 {
		x := Range{addr(Number, Last, Step, Rx), addr(Number, Last, Rx, Plus, Round), r.IntN(2) == 0}
		var s, want State
		// Some lines are not asked, as by commands that take more of them.
		for n := 1; n <= 20; n += 1 + r.IntN(5)/3 {
			l := Line{n, n > 17 && r.IntN(2) == 0, []bool{r.IntN(3) == 0, r.IntN(3) == 0, r.IntN(9) == 0}}
			is, next := Ask(x, s, l)
			isMeant, wantNext := naiveAsk(x, want, l)
			if is != isMeant || next != wantNext {
				t.Fatalf("%v %v %v: %v %v, not %v %v", x, s, l, is, next, isMeant, wantNext)
			}
			s, want = next, wantNext
		}
	}
}

func TestP11_3Extremes(t *testing.T) {
	numbers := extremes()
	all := addrsOf(math.MinInt, -1, 0, 1, api.MaxNumber, math.MaxInt)
	for _, a := range all {
		for _, b := range all {
			for _, n := range numbers {
				l := Line{N: n, Has: []bool{true}}
				Hits(a, l)
				Ask(Range{A: a, B: b}, State{}, l)
				Ask(Range{A: a, B: b}, State{true, -n}, l)
			}
		}
	}
	for _, n := range numbers {
		for _, of := range numbers {
			// What an int does not have is no line: nothing is said of it, but that the call ends.
			if of > 0 && n <= math.MaxInt-of {
				if is, next := Ask(Range{A: num(n), B: plus(of)}, State{}, Line{N: n}); !is || next != (State{true, n + of}) {
					t.Errorf("%v +%v: %v %v", n, of, is, next)
				}
				is, next := Ask(Range{A: num(n), B: round(of)}, State{}, Line{N: n})
				if !is || n%of == 0 && next != (State{}) || n%of != 0 && (!next.Open || next.To%of != 0 || next.To < n || uint(next.To)-uint(n) >= uint(of)) {
					t.Errorf("%v ~%v: %v %v", n, of, is, next)
				}
			}
		}
	}
}

func TestP11_3LineStays(t *testing.T) {
	l := Line{2, false, []bool{true, false, true}}
	for _, r := range []Range{{A: pat(0)}, {A: pat(0), B: pat(2)}, {A: pat(1), B: pat(0), Not: true}} {
		Ask(r, State{}, l)
		Ask(r, State{Open: true}, l)
		Hits(r.A, l)
	}
	if !slices.Equal(l.Has, []bool{true, false, true}) {
		t.Error(l.Has)
	}
}

// told are ranges, and what each is told as.
func told() []struct {
	r Range
	s string
} {
	return []struct {
		r Range
		s string
	}{
		{Range{}, ""}, {Range{Not: true}, "!"}, {Range{A: num(1)}, "1"}, {Range{A: num(1), Not: true}, "1!"}, {Range{A: num(10)}, "10"}, {Range{A: num(api.MaxNumber)}, "999999999"}, {Range{A: last}, "$"}, {Range{A: last, Not: true}, "$!"}, {Range{A: step(0, 0)}, "0~0"}, {Range{A: step(0, 4)}, "0~4"}, {Range{A: step(12, 34), Not: true}, "12~34!"},
		{Range{A: step(api.MaxNumber, api.MaxNumber)}, "999999999~999999999"}, {Range{A: pat(0)}, "/0/"}, {Range{A: pat(999)}, "/999/"}, {Range{A: pat(7), Not: true}, "/7/!"}, {Range{A: num(2), B: num(4)}, "2,4"}, {Range{A: num(4), B: num(2)}, "4,2"}, {Range{A: num(4), B: num(0)}, "4,0"}, {Range{A: num(2), B: last}, "2,$"},
		{Range{A: num(2), B: pat(1)}, "2,/1/"}, {Range{A: num(2), B: plus(3)}, "2,+3"}, {Range{A: num(2), B: plus(0)}, "2,+0"}, {Range{A: num(2), B: round(3)}, "2,~3"}, {Range{A: num(2), B: round(0)}, "2,~0"}, {Range{A: num(2), B: plus(api.MaxNumber), Not: true}, "2,+999999999!"}, {Range{A: num(2), B: round(api.MaxNumber), Not: true}, "2,~999999999!"},
		{Range{A: num(0), B: pat(0)}, "0,/0/"}, {Range{A: num(0), B: pat(999), Not: true}, "0,/999/!"}, {Range{A: last, B: last}, "$,$"}, {Range{A: last, B: num(1)}, "$,1"}, {Range{A: pat(3), B: pat(4)}, "/3/,/4/"}, {Range{A: pat(3), B: num(10), Not: true}, "/3/,10!"}, {Range{A: step(1, 2), B: round(3), Not: true}, "1~2,~3!"}, {Range{A: step(0, 0), B: last}, "0~0,$"},
	}
}

func TestP11_4Print(t *testing.T) {
	for _, x := range told() {
		if got, e := Print(x.r); got != x.s || e != api.OK {
			t.Errorf("%v: %q %v", x.r, got, e)
		}
	}
}

func TestP11_4PrintOfNone(t *testing.T) {
	for _, r := range []Range{
		{A: num(0)}, {A: num(-1)}, {A: num(api.MaxNumber + 1)}, {A: plus(1)}, {A: round(1)}, {A: every, B: num(1)}, {A: num(1), B: step(1, 2)}, {A: num(0), B: num(1)}, {A: pat(1000)}, {A: pat(-1), Not: true}, {A: Addr{Kind: 7}}, {A: num(1), B: Addr{Kind: 7}}, {A: Addr{Kind: -1}}, {A: Addr{Number, 1, 1}}, {A: num(1), B: Addr{Every, 0, 1}}, {A: Addr{Last, 1, 0}},
	} {
		if got, e := Print(r); got != "" || e != api.ErrArg {
			t.Errorf("%v: %q %v", r, got, e)
		}
	}
	all := addrsOf(-1, 0, 1000, api.MaxNumber+1)
	for _, a := range all {
		for _, b := range all {
			r := Range{A: a, B: b}
			if got, e := Print(r); naiveMay(r) != (e == api.OK) || e != api.OK && (got != "" || e != api.ErrArg) {
				t.Fatalf("%v: %q %v", r, got, e)
			}
		}
	}
}

func TestP11_4Parse(t *testing.T) {
	for _, x := range told() {
		if got, e := Parse(x.s); got != x.r || e != api.OK {
			t.Errorf("%q: %v %v", x.s, got, e)
		}
	}
}

func TestP11_4ParseOfNone(t *testing.T) {
	for _, s := range []string{
		// No range that may be.
		"0", "0!", "0,1", "0,0", "0,$", "0,+1", "0,~1", "+1", "~1", "+1,2", "~1,/0/", ",1", ",", ",$", ",/0/", ",!", "1,2~3", "1,0~0", "/0/,1~1", "/1000/", "0,/1000/",
		// Numbers that are none, or too great, or told otherwise.
		"01", "00", "1,02", "1,00", "01~2", "1~02", "/00/", "/01/", "/0999/", "1,+01", "1,~01", "1,+00", "1000000000", "1,1000000000", "1~1000000000", "1000000000~1", "1,+1000000000", "1,~1000000000", "99999999999999999999999", "/99999999999999999999/", "-1", "1,-1", "/-1/", "-1~2", "1~-2", "1,+-1", "1,~-1", "-0", "1,-0", "1,++1", "1,~+1", "1~+1", "/+1/",
		"0x1", "1_0", "1e1", "1.0", "٣", "½",
		// Parts that are not there, or are too many.
		"1,", "$,", "/0/,", "1,!", "1~", "1~,2", "~", "1,+", "1,~", "/", "//", "/1", "1/", "1,/", "1,//", "1,/1", "1,1/", "///1///", "//1//", "/1//", "$$", "$1", "1$", "$~1", "1~$", "1~2~3", "~1~2", "1,~1~2", "1,2,3", "1,2,", ",,", "1,,2", "1+1", "1,2+1", "/1/2", "1/2/", "/1/I", "/1/$", "1/1/,2", "!!", "1!!", "!1", "1!,2", "1,!2", "1,$$", "$,$!!",
		// Bytes that say nothing elsewhere.
		" ", "1 ", " 1", "1 ,2", "1, 2", "1 !", "1! ", "1\n", "\n", "1,2\t", "\x00", "1\x00", "\xff", "a", "1p", "1,2p", "#n", ";", strings.Repeat("1", 600), strings.Repeat("/", 600), strings.Repeat("!", 600), strings.Repeat(",", 600), strings.Repeat("~", 600),
	} {
		if got, e := Parse(s); got != (Range{}) || e != api.ErrAddr {
			t.Errorf("%q: %v %v", s, got, e)
		}
	}
}

// naiveAddr is the address that s tells, and whether it tells one.
func naiveAddr(s string) (Addr, bool) {
	forms := map[int]string{Every: `()()`, Number: `(N)()`, Last: `\$()()`, Step: `(N)~(N)`, Rx: `/(N)/()`, Plus: `\+(N)()`, Round: `~(N)()`}
	for kind, form := range forms {
		pattern := regexp.MustCompile(`\A` + strings.ReplaceAll(form, "N", "0|[1-9][0-9]{0,8}") + `\z`)
		if parts := pattern.FindStringSubmatch(s); parts != nil {
			n, _ := strconv.Atoi(parts[1])
			m, _ := strconv.Atoi(parts[2])
			return Addr{kind, n, m}, true
		}
	}
	return Addr{}, false
}

// textsOf are all texts of letters, up to n of them.
func textsOf(letters string, n int) []string {
	all := []string{""}
	for from, length := 0, 0; length < n; length++ {
		to := len(all)
		for _, s := range all[from:to] {
			for _, letter := range letters {
				all = append(all, s+string(letter))
			}
		}
		from = to
	}
	return all
}

func TestP11_4AllShortOnes(t *testing.T) {
	// Each part that is an address, and some others; "" is no second address that is told.
	addrs := map[string]Addr{}
	parts := append(textsOf("01$/+~! ", 4), "/999/", "/1000/", "+999999999", "1000000000")
	for _, s := range parts {
		if a, is := naiveAddr(s); is {
			addrs[s] = a
		}
	}
	check := func(s string, want Range, is bool) {
		t.Helper()
		got, e := Parse(s)
		if is && (got != want || e != api.OK) || !is && (got != (Range{}) || e != api.ErrAddr) {
			t.Fatalf("%q: %v %v, not %v %v", s, got, e, want, is)
		}
	}
	checkBoth := func(s string, want Range, is bool) {
		t.Helper()
		check(s, want, is)
		want.Not = true
		check(s+"!", want, is)
	}
	for _, s := range parts {
		a, isA := addrs[s]
		if strings.HasSuffix(s, "!") {
			continue
		}
		checkBoth(s, Range{A: a}, isA && naiveMay(Range{A: a}))
		for _, first := range []string{"", "1", "0", "$", "/1/", "1~1", "+1", "~1", "01", "/", "1!"} {
			b, isB := a, isA && s != ""
			a, isA := addrs[first]
			r := Range{A: a, B: b}
			checkBoth(first+","+s, r, isA && isB && naiveMay(r))
		}
	}
}

func TestP11_5PrintedIsParsed(t *testing.T) {
	all := addrsOf(0, 1, 2, 10, 998, 999, 1000, api.MaxNumber-1, api.MaxNumber)
	texts := map[string]Range{}
	for _, a := range all {
		for _, b := range all {
			for _, isNot := range []bool{false, true} {
				r := Range{a, b, isNot}
				s, e := Print(r)
				if e != api.OK {
					continue
				}
				if got, e := Parse(s); got != r || e != api.OK {
					t.Fatalf("%v, %q: %v %v", r, s, got, e)
				}
				texts[s] = r
			}
		}
	}
	if len(texts) < 1000 {
		t.Error(len(texts))
	}
}

func TestP11_5ParsedIsPrinted(t *testing.T) {
	n := 0
	for _, s := range textsOf("01,$/+~!", 6) {
		r, e := Parse(s)
		if e != api.OK {
			continue
		}
		if got, e := Print(r); got != s || e != api.OK {
			t.Fatalf("%q, %v: %q %v", s, r, got, e)
		}
		n++
	}
	if n < 100 {
		t.Error(n)
	}
}

func TestP11_5Turned(t *testing.T) {
	all := addrsOf(0, 1, 2, 3)
	for _, a := range all {
		for _, b := range all {
			for _, s := range statesOf(0, 2, 3) {
				for _, l := range linesOf(0, 1, 2, 3) {
					is, next := Ask(Range{A: a, B: b}, s, l)
					isTurned, nextTurned := Ask(Range{A: a, B: b, Not: true}, s, l)
					if is == isTurned || next != nextTurned {
						t.Fatalf("%v %v %v %v: %v %v, %v %v", a, b, s, l, is, next, isTurned, nextTurned)
					}
				}
			}
		}
	}
}
