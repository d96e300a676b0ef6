package match

import (
	"math"
	"math/rand/v2"
	"slices"
	"strings"
	"testing"

	"calender/api"
	"calender/bre"
	"calender/ere"
	"calender/rx"
	"calender/set"
	"calender/span"
)

// pattern is the one whose text s is.
func pattern(t *testing.T, s string) []rx.Node {
	t.Helper()
	l, e := rx.Parse(s)
	if e != api.OK {
		t.Fatalf("%q %v", s, e)
	}
	return l
}

// extended is the extended pattern s.
func extended(t *testing.T, s string) []rx.Node {
	t.Helper()
	l, at, e := ere.Parse(s)
	if e != api.OK {
		t.Fatalf("%q %v %v", s, at, e)
	}
	return l
}

// caps are those with the spans of the pairs of numbers of l, from group 0 on; none, where one is -1, and behind them.
func caps(l ...int) Caps {
	c := None()
	for i := 0; i+1 < len(l); i += 2 {
		c[i/2], _ = span.Of(l[i], l[i+1])
	}
	return c
}

// none are lists of nodes that are no patterns.
func none() [][]rx.Node {
	a := rx.Node{Kind: rx.Bytes, Set: set.Of("a")}
	return [][]rx.Node{
		nil, {}, {{Kind: rx.Bytes}}, {{Kind: 9}}, {{Kind: -1}}, {{Kind: rx.Ref, N: 1}}, {a, a}, {{Kind: rx.Cat, A: 5, B: 7}},
		{a, {Kind: rx.Times, A: 0, Min: 0, Max: 0}}, {a, {Kind: rx.Group, A: 0, N: 2}}, {a, {Kind: rx.Group, A: 0, N: 77}},
		{a, {Kind: rx.Times, A: 1, Min: 0, Max: -1}}, {{Kind: rx.Group, A: -1, N: 1}}, slices.Repeat([]rx.Node{a}, 121),
		{{Kind: rx.Begin}, {Kind: rx.Times, A: 0, Min: 0, Max: -1}}, {{Kind: rx.Empty, N: 1}},
	}
}

func TestP6_1None(t *testing.T) {
	for range 2 {
		c := None()
		for n := range c {
			if c[n] != -1-1i {
				t.Error(n, c[n])
			}
			// What is written over what was answered is not answered the next time.
			c[n] = 1 + 2i
		}
	}
}

func TestP6_1Group(t *testing.T) {
	c := caps(0, 5, 1, 3, -1, -1, 2, 2, 3, 9, 5, 5, 7, 9)
	c[7], c[8], c[9] = complex(math.NaN(), 1), 2+1i, 0.5+2i
	for n, want := range map[int]string{
		0: "hello", 1: "el", 2: "", 3: "", 4: "lo", 5: "", 6: "", 7: "", 8: "", 9: "",
		-1: "", 10: "", 11: "", math.MinInt: "", math.MaxInt: "",
	} {
		if got := Group("hello", c, n); got != want {
			t.Errorf("%d %q, not %q", n, got, want)
		}
	}
	if c = caps(slices.Repeat([]int{0, 1}, 10)...); Group("\xff", c, 9) != "\xff" || Group("", c, 9) != "" {
		t.Error("the last group")
	}
}

// fits is a pattern (its rx text), a text, and what the whole leaves from i to j; it does not fit, if that is nothing.
type fits struct {
	p, t string
	i, j int
	want []int
}

func (x fits) try(t *testing.T) {
	t.Helper()
	want, is := caps(x.want...), len(x.want) > 0
	if c, ok := Whole(pattern(t, x.p), x.t, x.i, x.j); ok != is || c != want {
		t.Errorf("%s in %q from %d to %d: %v %v", x.p, x.t, x.i, x.j, c, ok)
	}
}

func TestP6_2Leaves(t *testing.T) {
	for _, x := range []fits{
		{"e", "", 0, 0, []int{0, 0}}, {"e", "ab", 1, 1, []int{1, 1}}, {"e", "ab", 2, 2, []int{2, 2}}, {"e", "ab", 0, 1, nil},
		{"[61]", "ab", 0, 1, []int{0, 1}}, {"[61]", "ab", 1, 2, nil}, {"[61]", "ab", 0, 0, nil}, {"[61]", "aa", 0, 2, nil},
		{"[61]", "a", 1, 1, nil}, {"[00ff]", "\xff\x00", 1, 2, []int{1, 2}}, {"[c3]", "\xc3\xa4", 0, 1, []int{0, 1}},
		{"^", "ab", 0, 0, []int{0, 0}}, {"^", "ab", 1, 1, nil}, {"^", "ab", 0, 1, nil}, {"^", "", 0, 0, []int{0, 0}}, {"^", "a\nb", 2, 2, nil},
		{"$", "ab", 2, 2, []int{2, 2}}, {"$", "ab", 1, 1, nil}, {"$", "ab", 1, 2, nil}, {"$", "", 0, 0, []int{0, 0}}, {"$", "a\nb", 1, 1, nil},
		{"&^$", "", 0, 0, []int{0, 0}}, {"&$^", "", 0, 0, []int{0, 0}}, {"&^$", "a", 0, 0, nil}, {"&^&[61]$", "a", 0, 1, []int{0, 1}},
		{"&^&[61]$", "aa", 0, 1, nil}, {"&^&[61]$", "aa", 1, 2, nil}, {"&[61]&^[62]", "ab", 0, 2, nil},
	} {
		x.try(t)
	}
}

func TestP6_2Ref(t *testing.T) {
	for _, x := range []fits{
		{`&([6162])\1`, "aab", 0, 2, []int{0, 2, 0, 1}}, {`&([6162])\1`, "ab", 0, 2, nil}, {`&([6162])\1`, "a", 0, 1, nil},
		{`&([6162])\1`, "xbb", 1, 3, []int{1, 3, 1, 2}}, {`&(*0,-1;[61])&[62]\1`, "aabaaa", 0, 5, []int{0, 5, 0, 2}},
		{`&(*0,-1;[61])&[62]\1`, "aabaaa", 0, 4, nil}, {`&(*0,-1;[61])&[62]\1`, "aabaaa", 0, 6, nil},
		// A group without a byte is one: of this there is one at each place.
		{`&(*0,-1;[61])&[62]\1`, "b", 0, 1, []int{0, 1, 0, 0}}, {`&(*0,-1;[61])*2,2;\1`, "", 0, 0, []int{0, 0, 0, 0}},
		// A group that has no span is found nowhere, not even as nothing.
		{`|([61])&[62]\1`, "b", 0, 1, nil}, {`|([61])&[62]\1`, "ba", 0, 2, nil}, {`|([61])&[62]\1`, "a", 0, 1, []int{0, 1, 0, 1}},
		{`|([61])\1`, "", 0, 0, nil}, {`&*0,1;([61])\1`, "", 0, 0, nil}, {`&*0,1;([61])\1`, "aa", 0, 2, []int{0, 2, 0, 1}},
		{`&*0,1;([61])*0,1;\1`, "", 0, 0, []int{0, 0}}, {`&*0,1;(*0,-1;[61])\1`, "", 0, 0, nil},
		{`&([61])&([62])&\2\1`, "abba", 0, 4, []int{0, 4, 0, 1, 1, 2}}, {`&([61])&([62])&\2\1`, "abab", 0, 4, nil},
		// It is the bytes of the last time, and those of a text further than it is none.
		{`&*1,-1;([6162])\1`, "abb", 0, 3, []int{0, 3, 1, 2}}, {`&*1,-1;([6162])\1`, "aba", 0, 3, nil},
		{`&(*0,-1;[61])\1`, "aaa", 0, 3, nil}, {`&(*0,-1;[61])\1`, "aaaa", 0, 4, []int{0, 4, 0, 2}},
		{`&(*0,-1;[61])&(*0,-1;[61])&\1&\2[62]`, "aaaab", 0, 5, []int{0, 5, 0, 2, 2, 2}},
	} {
		x.try(t)
	}
}

func TestP6_2GroupAndAlt(t *testing.T) {
	for _, x := range []fits{
		{"([61])", "ba", 1, 2, []int{1, 2, 1, 2}}, {"([61])", "ba", 0, 1, nil}, {"(^)", "a", 0, 0, []int{0, 0, 0, 0}},
		{"(&([61])([62]))", "ab", 0, 2, []int{0, 2, 0, 2, 0, 1, 1, 2}},
		{"((((((((([61])))))))))", "a", 0, 1, slices.Repeat([]int{0, 1}, 10)},
		{"|[61][62]", "ab", 0, 1, []int{0, 1}}, {"|[61][62]", "ab", 1, 2, []int{1, 2}}, {"|[61][62]", "ab", 0, 2, nil},
		// The first one that fits from there to there, also if the other one could.
		{"|([61])([61])", "a", 0, 1, []int{0, 1, 0, 1}}, {"|([62])([61])", "a", 0, 1, []int{0, 1, -1, -1, 0, 1}},
		{"|([61])|([61])([61])", "a", 0, 1, []int{0, 1, 0, 1}}, {"|([61])(&[61][61])", "aa", 0, 2, []int{0, 2, -1, -1, 0, 2}},
		{"(|([61])*0,-1;[61])", "a", 0, 1, []int{0, 1, 0, 1, 0, 1}}, {"(|*0,-1;[61]([61]))", "a", 0, 1, []int{0, 1, 0, 1}},
		// Of one that began, but does not fit, nothing stays.
		{"|&([61])[62]&[61]([63])", "ac", 0, 2, []int{0, 2, -1, -1, 1, 2}},
	} {
		x.try(t)
	}
}

func TestP6_2Cat(t *testing.T) {
	for _, x := range []fits{
		{"&(*0,-1;[61])*0,-1;(&[61][62])", "aab", 0, 3, []int{0, 3, 0, 1, 1, 3}},
		{"&(*0,-1;[61])(*0,-1;[61])", "aaa", 0, 3, []int{0, 3, 0, 3, 3, 3}},
		{"&(*0,-1;[61])(*1,-1;[61])", "aaa", 0, 3, []int{0, 3, 0, 2, 2, 3}},
		{"&(*0,2;[61])(*0,-1;[61])", "aaa", 0, 3, []int{0, 3, 0, 2, 2, 3}},
		{"&(|[61]&[61][62])&(|[63]&[62]&[63][64])(*0,-1;[64])", "abcd", 0, 4, []int{0, 4, 0, 2, 2, 3, 3, 4}},
		{"&(|[61]&[61][62])&(|[63]&[62]&[63][64])(*0,-1;[64])", "abcd", 0, 3, []int{0, 3, 0, 2, 2, 3, 3, 3}},
		// The first part takes what it can, not the second one, even if it is a later row.
		{"&(|*0,-1;[61]&[61][62])(*0,-1;[6162])", "ab", 0, 2, []int{0, 2, 0, 2, 2, 2}},
		// With what the first part leaves: with the greatest k the second one does not fit.
		{`&(*0,-1;[61])&([6162])&\1\2`, "aabaab", 0, 6, []int{0, 6, 0, 2, 2, 3}},
		{`&(*0,-1;[61])&(*0,-1;[61])&[62]&\2\1`, "aabaa", 0, 5, []int{0, 5, 0, 2, 2, 2}},
		{`&(*0,-1;[61])&(*0,-1;[61])&[62]\2`, "aaabaa", 0, 6, []int{0, 6, 0, 1, 1, 3}},
		{`&(*0,-1;[61])&(*0,-1;[61])&[62]\1`, "aaabaa", 0, 6, []int{0, 6, 0, 2, 2, 3}},
		{`&(*0,-1;[61])&(*0,-1;[61])&[62]\1`, "aaabaa", 0, 4, []int{0, 4, 0, 0, 0, 3}},
	} {
		x.try(t)
	}
}

func TestP6_2Times(t *testing.T) {
	for _, x := range []fits{
		{"*0,-1;[61]", "aab", 0, 0, []int{0, 0}}, {"*0,-1;[61]", "aab", 0, 2, []int{0, 2}}, {"*0,-1;[61]", "aab", 0, 3, nil},
		{"*1,-1;[61]", "aab", 0, 0, nil}, {"*2,3;[61]", "aaaa", 0, 1, nil}, {"*2,3;[61]", "aaaa", 0, 2, []int{0, 2}},
		{"*2,3;[61]", "aaaa", 1, 4, []int{1, 4}}, {"*2,3;[61]", "aaaa", 0, 4, nil}, {"*0,1;[61]", "aa", 0, 2, nil},
		{"*2,2;[61]", "aa", 0, 2, []int{0, 2}}, {"*3,-1;[61]", "aaaa", 0, 4, []int{0, 4}}, {"*3,-1;[61]", "aaaa", 0, 2, nil},
		// Each time takes the most, the last one is what a group has, and what it had before stays, if it gets nothing.
		{"*0,-1;(|[61]&[61][61])", "aaa", 0, 3, []int{0, 3, 2, 3}}, {"*0,-1;(*0,2;[61])", "aaa", 0, 3, []int{0, 3, 2, 3}},
		{"*0,-1;(|([61])[62])", "ab", 0, 2, []int{0, 2, 1, 2, 0, 1}}, {"*0,-1;(|([61])([62]))", "aba", 0, 3, []int{0, 3, 2, 3, 2, 3, 1, 2}},
		// Nothing at all is no time, if there need be none; else it is one time of nothing, at the end.
		{"*0,-1;(*0,-1;[61])", "", 0, 0, []int{0, 0}}, {"*1,-1;(*0,-1;[61])", "", 0, 0, []int{0, 0, 0, 0}},
		{"*0,-1;(*0,-1;[61])", "aa", 0, 2, []int{0, 2, 0, 2}}, {"*1,-1;(*0,-1;[61])", "aa", 0, 2, []int{0, 2, 0, 2}},
		{"*2,-1;(*0,-1;[61])", "aa", 0, 2, []int{0, 2, 2, 2}}, {"*9,-1;(*0,-1;[61])", "aa", 0, 2, []int{0, 2, 2, 2}},
		{"*3,3;(*0,-1;[61])", "aa", 0, 2, []int{0, 2, 2, 2}}, {"*255,255;(*0,-1;[61])", "a", 0, 1, []int{0, 1, 1, 1}},
		{"*2,2;(*0,1;[61])", "aa", 0, 2, []int{0, 2, 1, 2}}, {"*2,2;(*0,1;[61])", "aaa", 0, 3, nil},
		{"*2,2;(*1,-1;[61])", "aaa", 0, 3, []int{0, 3, 2, 3}}, {"*2,2;(*0,-1;[61])", "aaa", 0, 3, []int{0, 3, 3, 3}},
		// A time of nothing is no help ahead of the end.
		{"*3,3;(|^[61])", "aa", 0, 2, nil}, {"*3,-1;(|^[61])", "aa", 0, 2, nil}, {"*2,3;(|^[61])", "aa", 0, 2, []int{0, 2, 1, 2}},
		{"*3,3;(|$[61])", "aa", 0, 2, []int{0, 2, 2, 2}}, {"*3,3;(|$[61])", "aab", 0, 2, nil}, {"*2,2;(^)", "a", 0, 0, []int{0, 0, 0, 0}},
		{"*2,2;(|^([61]))", "aa", 0, 2, []int{0, 2, 1, 2, 1, 2}}, {"*2,2;(|^([61]))", "a", 0, 1, nil},
		// What a time leaves is there for the next one, and not for the first one.
		{`*0,-1;(|&([61])[62]&[63]\2)`, "abca", 0, 4, []int{0, 4, 2, 4, 0, 1}}, {`*0,-1;(|&([61])[62]&[63]\2)`, "ca", 0, 2, nil},
		{`*0,-1;(|&([6164])[62]&[63]\2)`, "abcadbcd", 0, 8, []int{0, 8, 6, 8, 4, 5}}, {`*0,-1;(|&([6164])[62]&[63]\2)`, "abcadbca", 0, 8, nil},
		{`*0,-1;(&(|([61])[62])\3)`, "aaba", 0, 4, []int{0, 4, 2, 4, 2, 3, 0, 1}}, {`*0,-1;(&(|([61])[62])\3)`, "baaa", 0, 4, nil},
		{`*0,-1;(&*0,1;([61])&[62]\2)`, "ababa", 0, 5, []int{0, 5, 3, 5, 0, 1}}, {`*0,-1;(&*0,1;([61])&[62]\2)`, "baaba", 0, 5, nil},
		{`*0,-1;(&([6162])\2)`, "aabb", 0, 4, []int{0, 4, 2, 4, 2, 3}}, {`*0,-1;(&([6162])\2)`, "aaba", 0, 4, nil},
		{`&([61])*2,3;\1`, "aaaaa", 0, 4, []int{0, 4, 0, 1}}, {`&([61])*2,3;\1`, "aaaaa", 0, 5, nil}, {`&([61])*2,3;\1`, "aa", 0, 2, nil},
		{`&(*0,-1;[61])*2,-1;\1`, "aaaaa", 0, 5, []int{0, 5, 0, 1}}, {`&(*0,-1;[61])*2,2;\1`, "aaaaa", 0, 5, nil},
	} {
		x.try(t)
	}
	if c, ok := Whole(extended(t, "a{255}"), strings.Repeat("a", 255), 0, 255); !ok || c != caps(0, 255) {
		t.Error("255 times")
	}
	if _, ok := Whole(extended(t, "a{0,255}"), strings.Repeat("a", 256), 0, 256); ok {
		t.Error("256 times")
	}
}

func TestP6_3WrongPlaces(t *testing.T) {
	for _, p := range []string{"e", "*0,-1;[61]", "(*0,-1;[61])", "^", "$"} {
		l := pattern(t, p)
		for _, x := range [][2]int{
			{-1, 0}, {0, -1}, {-1, -1}, {0, 4}, {4, 4}, {3, 2}, {1, 0}, {2, 0}, {4, 3},
			{math.MinInt, 0}, {0, math.MaxInt}, {math.MaxInt, math.MaxInt}, {math.MinInt, math.MinInt}, {math.MaxInt, math.MinInt},
		} {
			if c, ok := Whole(l, "aaa", x[0], x[1]); ok || c != caps() {
				t.Error(p, x, c, ok)
			}
		}
		for _, i := range []int{-1, 4, 64, 1000, math.MinInt, math.MaxInt} {
			if c, ok := Longest(l, "aaa", i); ok || c != caps() {
				t.Error(p, i, c, ok)
			}
			if j := Ends(l, "aaa", i); len(j) != 0 {
				t.Error(p, i, j)
			}
		}
	}
}

func TestP6_3WrongPatterns(t *testing.T) {
	for n, l := range none() {
		for i := range 3 {
			if c, ok := Whole(l, "aa", 0, i); ok || c != caps() {
				t.Error(n, i, c, ok)
			}
			if c, ok := Longest(l, "aa", i); ok || c != caps() {
				t.Error(n, i, c, ok)
			}
			if j := Ends(l, "aa", i); len(j) != 0 {
				t.Error(n, i, j)
			}
		}
	}
}

func TestP6_4Ends(t *testing.T) {
	for _, x := range []struct {
		p, t string
		i    int
		want []int
	}{
		{"*0,-1;[61]", "aaab", 0, []int{0, 1, 2, 3}}, {"*0,-1;[61]", "aaab", 2, []int{2, 3}}, {"*0,-1;[61]", "aaab", 3, []int{3}},
		{"*0,-1;[61]", "aaab", 4, []int{4}}, {"*2,3;[61]", "aaaaa", 0, []int{2, 3}}, {"*2,3;[61]", "aaaaa", 4, nil}, {"[62]", "aab", 0, nil},
		{"|[61]&[61]&[61][61]", "aaa", 0, []int{1, 3}}, {"|&[61][61]|[61]e", "aaa", 0, nil}, {"e", "", 0, []int{0}}, {"$", "a", 0, nil},
		{"&*0,-1;[61]$", "aaa", 1, []int{3}}, {`&(*0,-1;[61])\1`, "aaaaa", 0, []int{0, 2, 4}}, {"*0,-1;(&[61][62])", "ababa", 0, []int{0, 2, 4}},
	} {
		l, _ := rx.Parse(x.p)
		if got := Ends(l, x.t, x.i); !slices.Equal(got, x.want) {
			t.Errorf("%s in %q from %d: %v", x.p, x.t, x.i, got)
		}
	}
}

func TestP6_4Longest(t *testing.T) {
	for _, x := range []struct {
		p, t string
		i    int
		want []int
	}{
		{"(a*)(ab)*", "aab", 0, []int{0, 3, 0, 1, 1, 3}}, {"a|ab|abc", "abcd", 0, []int{0, 3}}, {"a*", "baaac", 0, []int{0, 0}},
		{"a*", "baaac", 1, []int{1, 4}}, {"a*", "baaac", 5, []int{5, 5}}, {"a+", "baaac", 5, nil}, {"a+", "baaac", 0, nil},
		{"(a|ab)(c|bcd)?", "abcd", 0, []int{0, 4, 0, 1, 1, 4}}, {"x*", "abc", 1, []int{1, 1}}, {"", "abc", 2, []int{2, 2}},
		{"(a*)(b*)c?", "aabb", 1, []int{1, 4, 1, 2, 2, 4}}, {"^a", "aa", 1, nil}, {"a$", "aa", 0, nil}, {"a$", "aa", 1, []int{1, 2}},
		{"(a|b)*|(ab)*c", "ababc", 0, []int{0, 5, -1, -1, 2, 4}}, {"(a|b)*|(ab)*", "abab", 0, []int{0, 4, 3, 4}},
	} {
		want := caps(x.want...)
		if c, ok := Longest(extended(t, x.p), x.t, x.i); ok != (len(x.want) > 0) || c != want {
			t.Errorf("%s in %q from %d: %v %v", x.p, x.t, x.i, c, ok)
		}
	}
}

func TestP6_4LongTexts(t *testing.T) {
	s := strings.Repeat("a", 200)
	for i := range len(s) + 1 {
		ends := Ends(extended(t, "a*"), s, i)
		if len(ends) != len(s)-i+1 || ends[0] != i || ends[len(ends)-1] != len(s) {
			t.Error(i, ends)
		}
		if c, ok := Longest(extended(t, "(a*)(a)?$"), s, i); !ok || c != caps(i, 200, i, 200) {
			t.Error(i, c, ok)
		}
		if c, ok := Longest(extended(t, "(a*)(a)$"), s, i); ok != (i < 200) || ok && c != caps(i, 200, i, 199, 199, 200) {
			t.Error(i, c, ok)
		}
	}
	for _, p := range []string{"(ab|ba?)*(a|b)", "(a{3,70}b?){2,66}", "((a+)b)*(a*)", "(ab*)*a{2}b*"} {
		compare(t, extended(t, p), strings.Repeat("aba", 24))
	}
	for _, p := range []string{`&(*0,-1;[6162])\1`, `*0,-1;(&(*0,-1;[61])&[62]\2)`} {
		compare(t, pattern(t, p), strings.Repeat("aba", 23))
	}
}

func TestP6_4ManyWays(t *testing.T) {
	ways := func(p, s string, want ...int) {
		t.Helper()
		for i := range len(s) + 1 {
			c, ok := Longest(extended(t, p), s, i)
			if ok != (i == 0 && len(want) > 0) || ok && c != caps(want...) {
				t.Errorf("%s from %d: %v %v", p, i, c, ok)
			}
		}
	}
	few, many := strings.Repeat("a", 40), strings.Repeat("a", 200)
	ways("((a*)*)*b", many)
	ways("^((a*)*)*$", many, 0, 200, 0, 200, 0, 200)
	ways("(a|aa|aaa)*b", many)
	ways("^(a|aa|aaa)+$", many, 0, 200, 198, 200)
	ways("(((((((((a{0,255}){0,255}){0,255}){0,255}){0,255}){0,255}){0,255}){0,255}){0,255})b", few)
	ways("((((a{2,9}){3,}){0,40})+){1,7}b", few)
	ways(strings.Repeat(".*", 39)+"x", few)
	ways("^"+strings.Repeat("(a?)", 9)+strings.Repeat("a?", 20)+"a{20}$", few, 0, 40, 0, 1, 1, 2, 2, 3, 3, 4, 4, 5, 5, 6, 6, 7, 7, 8, 8, 9)
	l := pattern(t, `&(*0,-1;[61])&(*0,-1;[61])&(*0,-1;[61])&\1&\2&\3[62]`)
	if c, ok := Longest(l, few, 0); ok || c != caps() {
		t.Error(c, ok)
	}
	l, _, _ = bre.Parse(strings.Repeat(`\(.*\)`, 9) + `\9\8\7\6\5\4\3\2\1b`)
	for i := range len(few) + 1 {
		if c, ok := Longest(l, few, i); ok || c != caps() {
			t.Error(c, ok)
		}
	}
	for i := range len(few) + 1 {
		c, ok := Longest(l, "ab"+few[2:], i)
		if ok != (i == 1) || ok && c != caps(append([]int{1, 2}, slices.Repeat([]int{1, 1}, 9)...)...) {
			t.Error(i, c, ok)
		}
	}
	l = pattern(t, `&(*0,-1;[61])&(*0,-1;[61])&(*0,-1;[61])&\1&\2&\3[62]`)
	if c, ok := Longest(l, few+"b", 0); !ok || c != caps(0, 41, 0, 20, 20, 20, 20, 20) {
		t.Error(c, ok)
	}
}

func TestP6_4Places(t *testing.T) {
	for _, n := range []int{0, 1, 62, 63, 64, 65, 127, 128, 129, 200} {
		for step := 1; step < 150; step += 7 {
			s, is := newPlaces(n), make([]bool, n+1)
			for p := step - 1; p <= n; p += step {
				s.put(p)
				is[p] = true
			}
			for p := range n + 1 {
				next, last := slices.Index(is[p:], true), p
				if next >= 0 {
					next += p
				}
				for last >= 0 && !is[last] {
					last--
				}
				if s.has(p) != is[p] || s.from(p) != next || s.upTo(p) != last {
					t.Fatal(n, step, p, s.has(p), s.from(p), s.upTo(p))
				}
			}
			if s.from(n+1) != -1 || s.from(n+100) != -1 || s.upTo(-1) != -1 {
				t.Error(n, step)
			}
		}
	}
}

func TestP6_4EndsIsNew(t *testing.T) {
	l := pattern(t, "*0,-1;[61]")
	was := slices.Clone(l)
	first := Ends(l, "aa", 0)
	first[0], first[1] = 7, 8
	if !slices.Equal(Ends(l, "aa", 0), []int{0, 1, 2}) || !slices.Equal(l, was) {
		t.Error(Ends(l, "aa", 0), l)
	}
}

// asked is what a slow answer was asked: it goes by the words of P6.2 alone.
type asked struct {
	n, p, c, j int
	had        Caps
}

type answered struct {
	c  Caps
	ok bool
}

// slow tells whether nodes of l fit in t, as the document has it, place by place.
type slow struct {
	l    []rx.Node
	t    string
	kept map[asked]answered
}

func (x slow) fit(n, p, c, j int, had Caps) (Caps, bool) {
	q := asked{n, p, c, j, had}
	a, is := x.kept[q]
	if !is {
		a.c, a.ok = x.find(n, p, c, j, had)
		x.kept[q] = a
	}
	return a.c, a.ok
}

func (x slow) find(n, i, c, j int, had Caps) (Caps, bool) {
	switch v := x.l[n]; v.Kind {
	case rx.Empty:
		return had, i == j
	case rx.Bytes:
		return had, j == i+1 && set.Has(v.Set, x.t[i])
	case rx.Begin:
		return had, i == 0 && j == 0
	case rx.End:
		return had, i == len(x.t) && j == len(x.t)
	case rx.Ref:
		return had, had[v.N] != -1-1i && x.t[i:j] == span.Cut(x.t, had[v.N])
	case rx.Group:
		left, ok := x.fit(v.A, i, 0, j, had)
		left[v.N] = complex(float64(i), float64(j))
		return left, ok
	case rx.Alt:
		if left, ok := x.fit(v.A, i, 0, j, had); ok {
			return left, true
		}
		return x.fit(v.B, i, 0, j, had)
	case rx.Cat:
		for k := j; k >= i; k-- {
			if left, ok := x.fit(v.A, i, 0, k, had); ok {
				if left, ok = x.fit(v.B, k, 0, j, left); ok {
					return left, true
				}
			}
		}
	case rx.Times:
		if i == j && c >= v.Min {
			return had, true
		}
		if i == j {
			return x.fit(v.A, j, 0, j, had)
		}
		for k := j; k > i && (v.Max == -1 || v.Max > c); k-- {
			if left, ok := x.fit(v.A, i, 0, k, had); ok {
				if left, ok = x.fit(n, k, c+1, j, left); ok {
					return left, true
				}
			}
		}
	}
	return had, false
}

func (x slow) whole(i, j int) (Caps, bool) {
	c, ok := x.fit(len(x.l)-1, i, 0, j, caps())
	if !ok {
		return caps(), false
	}
	c[0] = complex(float64(i), float64(j))
	return c, true
}

// compare holds all answers about l in s against the slow ones, and against what follows.
func compare(t *testing.T, l []rx.Node, s string) {
	t.Helper()
	x, was := slow{l, s, map[asked]answered{}}, slices.Clone(l)
	for i := range len(s) + 1 {
		ends, last, is := []int(nil), caps(), false
		for j := i; j <= len(s); j++ {
			want, ok := x.whole(i, j)
			if ok {
				ends, last, is = append(ends, j), want, true
			}
			if c, got := Whole(l, s, i, j); got != ok || c != want {
				t.Fatalf("Whole of %s in %q from %d to %d: %v %v, not %v %v", rx.Text(l), s, i, j, c, got, want, ok)
			}
		}
		if got := Ends(l, s, i); !slices.Equal(got, ends) {
			t.Fatalf("Ends of %s in %q from %d: %v, not %v", rx.Text(l), s, i, got, ends)
		}
		c, got := Longest(l, s, i)
		if got != is || c != last {
			t.Fatalf("Longest of %s in %q from %d: %v %v, not %v %v", rx.Text(l), s, i, c, got, last, is)
		}
	}
	if !slices.Equal(l, was) {
		t.Fatal("the pattern was changed", was, l)
	}
}

// isInside fails, if a group has what the whole has not, or a group of none has something.
func isInside(t *testing.T, l []rx.Node, s string, c Caps) {
	t.Helper()
	for n := 1; n < len(c); n++ {
		if span.May(c[n]) && (span.Hull(c[n], c[0]) != c[0] || n > rx.Groups(l)) || !strings.Contains(Group(s, c, 0), Group(s, c, n)) {
			t.Fatalf("%s in %q: %v", rx.Text(l), s, c)
		}
	}
}

// tree is a pattern that is put together, how many groups began in it and ahead of it, and which of them ended.
type tree struct {
	l     []rx.Node
	begun int
	ended string
}

func leaf(v rx.Node) []rx.Node { return []rx.Node{v} }

func over1(v rx.Node, a []rx.Node) []rx.Node {
	v.A = len(a) - 1
	return append(slices.Clone(a), v)
}

func over2(kind int, a, b []rx.Node) []rx.Node {
	l := slices.Clone(a)
	for _, v := range b {
		v.A += len(a)
		v.B += len(a)
		switch v.Kind {
		case rx.Times, rx.Group:
			v.B = 0
		case rx.Cat, rx.Alt:
		default:
			v.A, v.B = 0, 0
		}
		l = append(l, v)
	}
	return append(l, rx.Node{Kind: kind, A: len(a) - 1, B: len(l) - 1})
}

func kind(l []rx.Node) int { return l[len(l)-1].Kind }

func canBeTimed(l []rx.Node) bool {
	return kind(l) == rx.Bytes || kind(l) == rx.Group || kind(l) == rx.Ref
}

func canBeJoined(of int, a, b []rx.Node) bool {
	if of == rx.Alt {
		return kind(a) != rx.Alt
	}
	return kind(a) != rx.Cat && kind(a) != rx.Alt && kind(b) != rx.Alt
}

// counts are numbers of times, of each kind one.
func counts() [][2]int { return [][2]int{{0, -1}, {1, 2}, {2, -1}, {0, 1}} }

// leaves are all patterns of one node but Empty.
func leaves(ended string) (l []rx.Node) {
	l = []rx.Node{{Kind: rx.Bytes, Set: set.Of("a")}, {Kind: rx.Bytes, Set: set.Of("ab")}, {Kind: rx.Begin}, {Kind: rx.End}}
	for _, n := range []byte(ended) {
		l = append(l, rx.Node{Kind: rx.Ref, N: int(n - '0')})
	}
	return l
}

// trees are all patterns of n nodes, with these leaves and numbers of times, and three groups at most.
func trees(n, begun int, ended string) (all []tree) {
	if n == 1 {
		for _, v := range leaves(ended) {
			all = append(all, tree{leaf(v), begun, ended})
		}
		return all
	}
	for _, a := range trees(n-1, begun, ended) {
		for _, c := range counts() {
			if canBeTimed(a.l) {
				all = append(all, tree{over1(rx.Node{Kind: rx.Times, Min: c[0], Max: c[1]}, a.l), a.begun, a.ended})
			}
		}
	}
	if begun < 3 {
		for _, a := range trees(n-1, begun+1, ended) {
			all = append(all, tree{over1(rx.Node{Kind: rx.Group, N: begun + 1}, a.l), a.begun, a.ended + string(rune('1'+begun))})
		}
	}
	for i := 1; i < n-1; i++ {
		for _, a := range trees(i, begun, ended) {
			for _, b := range trees(n-1-i, a.begun, a.ended) {
				for _, of := range []int{rx.Cat, rx.Alt} {
					if canBeJoined(of, a.l, b.l) {
						all = append(all, tree{over2(of, a.l, b.l), b.begun, b.ended})
					}
				}
			}
		}
	}
	return all
}

// words are all texts of up to n of the letters.
func words(letters string, n int) []string {
	all, last := []string{""}, []string{""}
	for range n {
		var next []string
		for _, s := range last {
			for _, b := range letters {
				next = append(next, s+string(b))
			}
		}
		all, last = append(all, next...), next
	}
	return all
}

func TestP6_2AllShortOnes(t *testing.T) {
	compare(t, leaf(rx.Node{}), "aba")
	for n := 1; n <= 5; n++ {
		s := words("ab", 5-n/2)
		l := trees(n, 0, "")
		for i, x := range l {
			if !rx.May(x.l) {
				t.Fatal(x.l)
			}
			// Of the many with five nodes each one is tried at some of the texts.
			for k := range s {
				if n < 5 || (i+k)%5 == 0 {
					compare(t, x.l, s[k])
				}
			}
		}
	}
}

// made is a pattern of up to n nodes by chance, behind x.
func made(r *rand.Rand, n int, x tree) tree {
	if n <= 1 {
		l := leaves(x.ended)
		if r.IntN(3) > 0 && len(l) > 4 {
			l = l[4:]
		} else if r.IntN(8) > 0 {
			l = l[:2]
		}
		return tree{leaf(l[r.IntN(len(l))]), x.begun, x.ended}
	}
	k := r.IntN(8)
	if k < 2 && x.begun < 9 {
		number := x.begun + 1
		a := made(r, n-1, tree{nil, number, x.ended})
		return tree{over1(rx.Node{Kind: rx.Group, N: number}, a.l), a.begun, a.ended + string(rune('0'+number))}
	}
	if k < 4 {
		a := made(r, min(n-1, 1+r.IntN(n)), x)
		if canBeTimed(a.l) {
			c := [][2]int{{0, -1}, {1, -1}, {0, 1}, {2, 2}, {1, 3}, {3, -1}, {0, 255}, {4, 9}}[r.IntN(8)]
			return tree{over1(rx.Node{Kind: rx.Times, Min: c[0], Max: c[1]}, a.l), a.begun, a.ended}
		}
		return a
	}
	of := rx.Cat
	if k == 4 {
		of = rx.Alt
	}
	i := 1 + r.IntN(n-1)
	a := made(r, i, x)
	b := made(r, n-1-i, a)
	if canBeJoined(of, a.l, b.l) {
		return tree{over2(of, a.l, b.l), b.begun, b.ended}
	}
	return a
}

// manyMade tells n patterns of up to 24 nodes, and a text of up to 9 bytes for each.
func manyMade(t *testing.T, n int, tell func(l []rx.Node, s string)) {
	t.Helper()
	r := rand.New(rand.NewPCG(6, 4))
	for n > 0 {
		l := made(r, 8+r.IntN(17), tree{}).l
		if len(l) > 24 || len(l) < 4 {
			continue
		}
		if !rx.May(l) {
			t.Fatal(l)
		}
		s := make([]byte, r.IntN(10))
		for i := range s {
			s[i] = "aaab"[r.IntN(4)]
		}
		tell(l, string(s))
		n--
	}
}

func TestP6_2GreatOnes(t *testing.T) {
	withRefs := 0
	manyMade(t, 12000, func(l []rx.Node, s string) {
		if rx.Refs(l) {
			withRefs++
		}
		compare(t, l, s)
	})
	if withRefs < 1500 {
		t.Error(withRefs)
	}
}

func TestP6_5GroupsAreInside(t *testing.T) {
	had := 0
	manyMade(t, 12000, func(l []rx.Node, s string) {
		for i := range len(s) + 1 {
			for _, j := range Ends(l, s, i) {
				c, ok := Whole(l, s, i, j)
				if !ok || span.From(c[0]) != i || span.To(c[0]) != j {
					t.Fatal(rx.Text(l), s, i, j, c, ok)
				}
				isInside(t, l, s, c)
				if c != caps(i, j) {
					had++
				}
			}
		}
	})
	if had < 10000 {
		t.Error(had)
	}
}
