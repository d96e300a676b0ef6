package find

import (
	"fmt"
	"math"
	"math/rand/v2"
	"slices"
	"strings"
	"testing"

	"calender/api"
	"calender/bre"
	"calender/ere"
	"calender/match"
	"calender/rx"
	"calender/set"
	"calender/span"
)

// extended is the extended pattern s.
func extended(t *testing.T, s string) []rx.Node {
	t.Helper()
	l, at, e := ere.Parse(s)
	if e != api.OK {
		t.Fatalf("%q %v %v", s, at, e)
	}
	return l
}

// basic is the basic pattern s.
func basic(t *testing.T, s string) []rx.Node {
	t.Helper()
	l, at, e := bre.Parse(s)
	if e != api.OK {
		t.Fatalf("%q %v %v", s, at, e)
	}
	return l
}

// none are lists of nodes that are no patterns, but look like ones that are found.
func none() [][]rx.Node {
	a := rx.Node{Kind: rx.Bytes, Set: set.Of("a")}
	return [][]rx.Node{
		nil, {}, {{Kind: rx.Bytes}}, {{Kind: 9}}, {{Kind: -1}}, {{Kind: rx.Ref, N: 1}}, {a, a}, {{Kind: rx.Empty, N: 1}},
		{{Kind: rx.Empty}, {Kind: rx.Empty}}, {a, {Kind: rx.Times, A: 0, Min: 0, Max: 0}}, {a, {Kind: rx.Group, A: 0, N: 2}},
		{{Kind: rx.Begin}, {Kind: rx.Times, A: 0, Min: 0, Max: -1}}, slices.Repeat([]rx.Node{a}, api.MaxNodes+1),
	}
}

// told is c's spans as text, those of groups that have none left out.
func told(c match.Caps) string {
	var parts []string
	for n, s := range c {
		if span.May(s) {
			parts = append(parts, fmt.Sprintf("%d:%d-%d", n, span.From(s), span.To(s)))
		}
	}
	return strings.Join(parts, " ")
}

// toldAll is the spans of the wholes of l.
func toldAll(l []match.Caps) string {
	var parts []string
	for _, c := range l {
		parts = append(parts, fmt.Sprintf("%d-%d", span.From(c[0]), span.To(c[0])))
	}
	return strings.Join(parts, " ")
}

func TestP7_1First(t *testing.T) {
	for _, x := range []struct {
		p, t string
		from int
		want string
	}{
		{"a*", "baaac", 0, "0:0-0"}, {"a*", "baaac", 1, "0:1-4"}, {"a*", "baaac", 2, "0:2-4"}, {"a*", "baaac", 4, "0:4-4"}, {"a*", "baaac", 5, "0:5-5"},
		{"a+", "baaac", 0, "0:1-4"}, {"a+", "baaac", 3, "0:3-4"}, {"c|a", "bac", 0, "0:1-2"}, {"c|a", "bac", 2, "0:2-3"},
		// The least place goes ahead of the longest one, and at that place the longest one ahead of what is written first.
		{"b|aaa", "baaa", 0, "0:0-1"}, {"a|ab", "xab", 0, "0:1-3"}, {"(a*)(ab)*", "xxaab", 2, "0:2-5 1:2-3 2:3-5"},
		{"(b)|(a)", "xab", 0, "0:1-2 2:1-2"}, {"(b)|(a)", "xab", 2, "0:2-3 1:2-3"},
		// Places are those of the whole text, not of what is behind from.
		{"^", "ab", 0, "0:0-0"}, {"$", "ab", 0, "0:2-2"}, {"$", "ab", 2, "0:2-2"}, {"^a|b", "aab", 1, "0:2-3"}, {"", "", 0, "0:0-0"}, {"", "ab", 1, "0:1-1"},
		// Less than 0 is as 0.
		{"^a", "ab", -1, "0:0-1"}, {"b", "ab", math.MinInt, "0:1-2"}, {"a", "ab", -2, "0:0-1"}, {"", "", -7, "0:0-0"},
		{"\n.", "a\n\xff", 0, "0:1-3"},
	} {
		c, is := First(extended(t, x.p), x.t, x.from)
		if got := told(c); !is || got != x.want {
			t.Errorf("%s in %q from %d: %q %v, not %q", x.p, x.t, x.from, got, is, x.want)
		}
	}
	c, is := First(basic(t, `\(.\)\1`), "abccdd", 0)
	if got := told(c); !is || got != "0:2-4 1:2-3" {
		t.Error(got, is)
	}
}

func TestP7_1NotFound(t *testing.T) {
	for _, x := range []struct {
		p, t string
		from int
	}{
		{"a", "", 0}, {"a", "b", 0}, {"a", "ab", 1}, {"a", "aa", 2}, {"^", "ab", 1}, {"^b", "ab", 1}, {"a$", "ab", 0}, {"aa", "aba", 0},
		{"", "", 1}, {"", "ab", 3}, {"$", "ab", 3}, {"a*", "ab", math.MaxInt}, {"(a)b+", "aac", -1},
	} {
		if c, is := First(extended(t, x.p), x.t, x.from); is || c != match.None() {
			t.Errorf("%s in %q from %d: %v", x.p, x.t, x.from, c)
		}
	}
}

func TestP7_1Has(t *testing.T) {
	for _, x := range []struct {
		p, t string
		want bool
	}{
		{"a", "bca", true}, {"a", "bcd", false}, {"", "", true}, {"", "b", true}, {"a", "", false}, {"a*", "b", true}, {"^b", "ab", false},
		{"^a", "ab", true}, {"b$", "ab", true}, {"a$", "ab", false}, {"$", "", true}, {"(ab|b)c", "aabc", true}, {"(ab|b)c", "aab", false},
	} {
		if got := Has(extended(t, x.p), x.t); got != x.want {
			t.Errorf("%s in %q: %v", x.p, x.t, got)
		}
	}
}

func TestP7_1NoPatterns(t *testing.T) {
	for i, l := range none() {
		for _, s := range []string{"", "a", "aaab"} {
			c, is := First(l, s, 0)
			if is || c != match.None() || Has(l, s) || len(All(l, s)) != 0 {
				t.Errorf("%d in %q: %v %v", i, s, c, is)
			}
		}
	}
}

func TestP7_2All(t *testing.T) {
	for _, x := range []struct{ p, t, want string }{
		{"a*", "baaac", "0-0 1-4 5-5"}, {"x*", "abc", "0-0 1-1 2-2 3-3"}, {"a*", "", "0-0"}, {"a*", "aaa", "0-3"}, {"a*", "aab", "0-2 3-3"},
		{"a*", "aba", "0-1 2-3"}, {"a*", "bab", "0-0 1-2 3-3"}, {"a*", "abba", "0-1 2-2 3-4"},
		{"", "", "0-0"}, {"", "ab", "0-0 1-1 2-2"}, {"a", "aaa", "0-1 1-2 2-3"}, {"aa", "aaaaa", "0-2 2-4"}, {"aba", "ababa", "0-3"},
		{"a", "bcd", ""}, {"a", "", ""}, {"a+", "aabaab", "0-2 3-5"}, {"^a", "aaa", "0-1"}, {"^", "ab", "0-0"}, {"$", "ab", "2-2"},
		{"^|b", "abb", "0-0 1-2 2-3"}, {"^|$", "ab", "0-0 2-2"}, {"a|$", "aa", "0-1 1-2"}, {"b|$", "ab", "1-2"}, {"a|$", "ab", "0-1 2-2"},
		{"(^a)|b|c*", "abca", "0-1 1-2 2-3 4-4"}, {"b*", "abba", "0-0 1-3 4-4"}, {".*", "ab\nc", "0-4"}, {"[^b]*", "aabba", "0-2 3-3 4-5"},
	} {
		if got := toldAll(All(extended(t, x.p), x.t)); got != x.want {
			t.Errorf("%s in %q: %q, not %q", x.p, x.t, got, x.want)
		}
	}
}

func TestP7_2Groups(t *testing.T) {
	var got []string
	for _, c := range All(basic(t, `\(.\)\(x\)*\1`), "aa bxxb cd dxd") {
		got = append(got, told(c))
	}
	want := []string{"0:0-2 1:0-1", "0:3-7 1:3-4 2:5-6", "0:11-14 1:11-12 2:12-13"}
	if !slices.Equal(got, want) {
		t.Error(got)
	}
}

// naiveFirst is the chapter's First, word by word.
func naiveFirst(l []rx.Node, t string, from int) (match.Caps, bool) {
	for i := 0; i <= len(t); i++ {
		if c, is := match.Longest(l, t, i); is && i >= from {
			return c, true
		}
	}
	return match.None(), false
}

// naiveAll is the chapter's All, word by word.
func naiveAll(l []rx.Node, t string) (all []match.Caps) {
	c, is := naiveFirst(l, t, 0)
	for is {
		all = append(all, c)
		end := span.To(c[0])
		c, is = naiveFirst(l, t, end)
		if is && span.Len(c[0]) == 0 && span.From(c[0]) == end {
			c, is = naiveFirst(l, t, end+1)
		}
	}
	return all
}

// texts are all of the letters a, b and c, up to n of them.
func texts(n int) []string {
	all := []string{""}
	for from, length := 0, 0; length < n; length++ {
		to := len(all)
		for _, s := range all[from:to] {
			all = append(all, s+"a", s+"b", s+"c")
		}
		from = to
	}
	return all
}

// patterns are some of each kind.
func patterns(t *testing.T) (all [][]rx.Node) {
	for _, s := range []string{
		"", "a", "a*", "a?", "a+b*", "a|b", "a|ab|c", "(a|b)*", "(a*)(b*)", "^", "$", "^a*", "b*$", "^|b", "a|$", "^$", "(ab)*c?", "(a|$)", "(^|b)a*",
		"[^a]*", "b{2}", "(a{1,2}){2}", "(a?b?){2,}", ".", ".*", "(.)?c",
	} {
		all = append(all, extended(t, s))
	}
	for _, s := range []string{`\(.\)\1`, `\(a*\)b*\1`, `\(a*\)\{2\}\1*`, `\(b*\)\(a\)*\1`} {
		all = append(all, basic(t, s))
	}
	return all
}

func TestP7_2AllShortOnes(t *testing.T) {
	for n, l := range patterns(t) {
		for _, s := range texts(5) {
			for from := -1; from <= len(s)+1; from++ {
				c, is := First(l, s, from)
				if d, ok := naiveFirst(l, s, from); c != d || is != ok {
					t.Fatalf("%d in %q from %d: %v %v", n, s, from, c, is)
				}
			}
			if got := All(l, s); !slices.Equal(got, naiveAll(l, s)) {
				t.Fatalf("%d in %q: %v", n, s, got)
			}
			if _, is := First(l, s, 0); Has(l, s) != is {
				t.Fatalf("%d in %q", n, s)
			}
		}
	}
}

// inOrder tells whether l is as P7.3 has it.
func inOrder(l []match.Caps) bool {
	for i, c := range l {
		for _, d := range l[:i] {
			touch := span.To(d[0]) == span.From(c[0]) && span.Len(c[0]) == 0
			if span.From(c[0]) < span.To(d[0]) || span.From(c[0]) < span.From(d[0]) || span.Meet(c[0], d[0]) || touch {
				return false
			}
		}
	}
	return true
}

func TestP7_3InOrder(t *testing.T) {
	r := rand.New(rand.NewPCG(7, 3))
	for n, l := range patterns(t) {
		for _, s := range texts(5) {
			if all := All(l, s); !inOrder(all) {
				t.Fatalf("%d in %q: %v", n, s, all)
			}
		}
		for range 20 {
			b := make([]byte, r.IntN(60))
			for i := range b {
				b[i] = "abc\n"[r.IntN(4)]
			}
			if all := All(l, string(b)); !inOrder(all) {
				t.Fatalf("%d in %q: %v", n, b, all)
			}
		}
	}
}

func TestP7_2LongTexts(t *testing.T) {
	s := strings.Repeat("xay", 200)
	if all := All(extended(t, "(a|b)+"), s); len(all) != 200 || told(all[199]) != "0:598-599 1:598-599" {
		t.Error(len(all))
	}
	if all := All(extended(t, "x*"), strings.Repeat("a", 600)); len(all) != 601 || told(all[600]) != "0:600-600" {
		t.Error(len(all))
	}
}

func TestP7_2AllIsNew(t *testing.T) {
	l := basic(t, `\(a\)\1*`)
	was := slices.Clone(l)
	first := All(l, "aaba")
	kept := slices.Clone(first)
	for i := range first {
		first[i] = match.Caps{}
	}
	// Nothing of one answer is in another one, not even behind its end.
	_ = append(All(l, "aaba")[:1], match.Caps{})
	if !slices.Equal(All(l, "aaba"), kept) || !slices.Equal(l, was) {
		t.Error(l)
	}
}
