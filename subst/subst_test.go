package subst

import (
	"math"
	"math/rand/v2"
	"regexp"
	"slices"
	"strings"
	"testing"

	"calender/api"
	"calender/bre"
	"calender/ere"
	"calender/find"
	"calender/match"
	"calender/rx"
	"calender/set"
	"calender/span"
)

// text is a part of bytes.
func text(s string) Part { return Part{Text: s, Group: -1} }

// group is a part that group n has.
func group(n int) Part { return Part{Group: n} }

// extended is the extended pattern s.
func extended(t *testing.T, s string) []rx.Node {
	t.Helper()
	l, at, e := ere.Parse(s)
	if e != api.OK {
		t.Fatalf("%q %v %v", s, at, e)
	}
	return l
}

// basic is the basic pattern s.
func basic(t *testing.T, s string) []rx.Node {
	t.Helper()
	l, at, e := bre.Parse(s)
	if e != api.OK {
		t.Fatalf("%q %v %v", s, at, e)
	}
	return l
}

// parsed is the replacement s.
func parsed(t *testing.T, s string) []Part {
	t.Helper()
	l, at, e := Parse(s)
	if e != api.OK || at != 0 {
		t.Fatalf("%q %v %v", s, at, e)
	}
	return l
}

func TestP9_1Parse(t *testing.T) {
	for _, x := range []struct {
		s    string
		want []Part
	}{
		{"", nil}, {"a", []Part{text("a")}}, {"abc", []Part{text("abc")}}, {"&", []Part{group(0)}}, {"&&", []Part{group(0), group(0)}},
		{`\1`, []Part{group(1)}}, {`\5\9`, []Part{group(5), group(9)}}, {`a&b\2c`, []Part{text("a"), group(0), text("b"), group(2), text("c")}},
		{`&ab&`, []Part{group(0), text("ab"), group(0)}}, {`\1&\1`, []Part{group(1), group(0), group(1)}},
		// A number has one digit, and is no number without a \.
		{`\11`, []Part{group(1), text("1")}}, {`\10`, []Part{group(1), text("0")}}, {`1\12`, []Part{text("1"), group(1), text("2")}}, {"09", []Part{text("09")}},
		{`\n`, []Part{text("\n")}}, {"\\\n", []Part{text("\n")}}, {"n", []Part{text("n")}}, {`\\`, []Part{text(`\`)}}, {`\&`, []Part{text("&")}}, {`\/`, []Part{text("/")}}, {"/", []Part{text("/")}},
		// Bytes that follow one another are one part, however they are told.
		{`a\nb\\c\&d\/e` + "\\\nf/", []Part{text("a\nb\\c&d/e\nf/")}}, {`\n\n` + "\\\n", []Part{text("\n\n\n")}}, {`a\&&\&b`, []Part{text("a&"), group(0), text("&b")}},
		// A \ is taken together with what is behind it, from left to right.
		{`\\1`, []Part{text(`\1`)}}, {`\\\1`, []Part{text(`\`), group(1)}}, {`\\&`, []Part{text(`\`), group(0)}}, {`\\\&`, []Part{text(`\&`)}}, {`\\n`, []Part{text(`\n`)}},
		{"\\\\\\\n", []Part{text("\\\n")}}, {`\nn`, []Part{text("\nn")}}, {"\\\nn", []Part{text("\nn")}},
		// All other bytes mean nothing here.
		{"\x00\xff\r\t ", []Part{text("\x00\xff\r\t ")}}, {"\xe2\x82\xac&", []Part{text("\xe2\x82\xac"), group(0)}}, {"^.*[]$(){}+?|%~", []Part{text("^.*[]$(){}+?|%~")}},
		{strings.Repeat("&", 600), slices.Repeat([]Part{group(0)}, 600)}, {strings.Repeat("a", 600), []Part{text(strings.Repeat("a", 600))}},
	} {
		if got, at, e := Parse(x.s); !slices.Equal(got, x.want) || at != 0 || e != api.OK {
			t.Errorf("%q: %v %v %v", x.s, got, at, e)
		}
	}
}

func TestP9_1Wrong(t *testing.T) {
	for _, x := range []struct {
		s  string
		at int
	}{
		{`\`, 0}, {`ab\`, 2}, {`\\\`, 2}, {`&\`, 1}, {`\1\`, 2}, {`\0`, 0}, {`a\0b`, 1}, {`\N`, 0}, {`\t`, 0}, {`&\x`, 1}, {`\&\ `, 2}, {`\\\a`, 2}, {"\\\xff", 0}, {"\\\x00", 0}, {`\.`, 0}, {`\(`, 0},
		{"\n", 0}, {"a\nb", 1}, {"a\n", 1}, {"&\n", 1}, {"\\1\n", 2}, {"\\n\n", 2}, {"\\\n\n", 2},
		// The \ ahead of this byte 10 is what the one ahead of that says.
		{"\\\\\n", 2}, {"a\\\\\nb", 3}, {"\\\\\\\\\n", 4},
		// What is wrong first is told.
		{"\\z\n", 0}, {"\n\\z", 0}, {"a\\\\\\z\\", 3}, {"ab\ncd\nef", 2}, {"\\1\\0\\", 2}, {strings.Repeat("a", 599) + `\`, 599},
	} {
		if got, at, e := Parse(x.s); len(got) != 0 || at != x.at || e != api.ErrTemp {
			t.Errorf("%q: %v %v %v", x.s, got, at, e)
		}
	}
}

func TestP9_1EachByte(t *testing.T) {
	told := map[byte]Part{'n': text("\n"), '\n': text("\n"), '\\': text(`\`), '&': text("&"), '/': text("/")}
	for n := 1; n <= 9; n++ {
		told["0123456789"[n]] = group(n)
	}
	for b := range 256 {
		one := string([]byte{byte(b)})
		want, is := told[byte(b)]
		got, at, e := Parse(`\` + one)
		if is && (!slices.Equal(got, []Part{want}) || e != api.OK) || !is && (len(got) != 0 || at != 0 || e != api.ErrTemp) {
			t.Errorf("\\ %d: %v %v %v", b, got, at, e)
		}
		if strings.Contains("&\\\n", one) {
			continue
		}
		if got, _, e := Parse(one); !slices.Equal(got, []Part{text(one)}) || e != api.OK {
			t.Errorf("%d: %v %v", b, got, e)
		}
	}
}

// token is what a replacement begins by.
var token = regexp.MustCompile(`(?s)^(?:&|\\[1-9n&/\\\n]|[^&\\\n])`)

// naiveParse is the chapter's Parse, token by token.
func naiveParse(s string) ([]Part, int, api.Errno) {
	var l []Part
	for at := 0; at < len(s); {
		one := token.FindString(s[at:])
		at += len(one)
		said := strings.TrimPrefix(one, `\`)
		if said == "n" && one != said {
			said = "\n"
		}
		switch {
		case one == "":
			return nil, at, api.ErrTemp
		case one == "&":
			l = append(l, group(0))
		case len(one) == 2 && strings.Contains("123456789", said):
			l = append(l, group(int(said[0]-'0')))
		case len(l) > 0 && l[len(l)-1].Group == -1:
			l[len(l)-1].Text += said
		default:
			l = append(l, text(said))
		}
	}
	return l, 0, api.OK
}

// textsOf are all texts of letters, up to n of them.
func textsOf(letters string, n int) []string {
	all := []string{""}
	for from, length := 0, 0; length < n; length++ {
		to := len(all)
		for _, s := range all[from:to] {
			for i := range len(letters) {
				all = append(all, s+letters[i:i+1])
			}
		}
		from = to
	}
	return all
}

func TestP9_1AllShortOnes(t *testing.T) {
	for _, s := range textsOf("&\\/n\n10a", 5) {
		got, at, e := Parse(s)
		if want, wantAt, wantE := naiveParse(s); !slices.Equal(got, want) || at != wantAt || e != wantE {
			t.Fatalf("%q: %v %v %v, not %v %v %v", s, got, at, e, want, wantAt, wantE)
		}
	}
}

func TestP9_1ParseIsNew(t *testing.T) {
	first := parsed(t, `a\1b&`)
	was := slices.Clone(first)
	for i := range first {
		first[i] = Part{}
	}
	_ = append(parsed(t, `a\1b&`)[:1], Part{})
	if got := parsed(t, `a\1b&`); !slices.Equal(got, was) {
		t.Error(got)
	}
}

func TestP9_2Print(t *testing.T) {
	for _, x := range []struct {
		l    []Part
		want string
	}{
		{nil, ""}, {[]Part{}, ""}, {[]Part{text("abc")}, "abc"}, {[]Part{group(0)}, "&"}, {[]Part{group(1), group(9)}, `\1\9`}, {[]Part{group(0), group(0)}, "&&"},
		{[]Part{text("a"), group(0), text("b"), group(2), text("c")}, `a&b\2c`}, {[]Part{text("\n")}, `\n`}, {[]Part{text(`\`)}, `\\`}, {[]Part{text("&")}, `\&`},
		// A / needs nothing ahead.
		{[]Part{text("/")}, "/"}, {[]Part{text("a/b\n\\&n1")}, `a/b\n\\\&n1`}, {[]Part{text(`\n`)}, `\\n`}, {[]Part{text(`\1`), group(1), text("1")}, `\\1\11`},
		{[]Part{text("\x00\xff\r ^$.*[]")}, "\x00\xff\r ^$.*[]"}, {[]Part{text("\xe2\x82\xac")}, "\xe2\x82\xac"},
	} {
		if got, e := Print(x.l); got != x.want || e != api.OK {
			t.Errorf("%v: %q %v", x.l, got, e)
		}
	}
}

func TestP9_2NoReplacements(t *testing.T) {
	for _, l := range [][]Part{
		// Bytes that are none, numbers that no group has, and groups that have bytes.
		{text("")}, {group(10)}, {group(-2)}, {group(math.MaxInt)}, {group(math.MinInt)}, {{"a", 0}}, {{"a", 1}}, {{"a", 9}}, {{"a", 10}}, {{"a", -2}}, {{"&", 0}},
		{text("a"), group(1), text("")}, {text(""), group(1)}, {group(1), text(""), group(2)}, {group(0), group(10)}, {group(10), group(0)}, {text("a"), {"b", 1}, text("c")},
		{text("a"), text("b")}, {text("a"), text("a")}, {group(0), text("a"), text("b")}, {text("a"), text("b"), group(0)}, {text("a"), group(1), text("b"), text("c"), group(2)},
		{text("a"), text("")}, {text(""), text("a")}, {text(""), text("")},
	} {
		if got, e := Print(l); got != "" || e != api.ErrArg {
			t.Errorf("%v: %q %v", l, got, e)
		}
	}
}

func TestP9_2Most(t *testing.T) {
	for _, x := range []struct {
		l    []Part
		want int
	}{
		{nil, 0}, {[]Part{}, 0}, {[]Part{text("9")}, 0}, {[]Part{group(0)}, 0}, {[]Part{group(1)}, 1}, {[]Part{group(3), text("a"), group(2)}, 3}, {[]Part{group(2), group(9), group(5)}, 9},
		{[]Part{group(1), group(2)}, 2}, {[]Part{text("a"), group(0), text("b")}, 0},
		// Also of parts that are none.
		{[]Part{group(12), group(3)}, 12}, {[]Part{group(-7)}, 0}, {[]Part{{"a", 4}}, 4}, {[]Part{group(math.MinInt), group(math.MaxInt)}, math.MaxInt},
	} {
		if got := Most(x.l); got != x.want {
			t.Errorf("%v: %v", x.l, got)
		}
	}
}

// caps is what groups 0, 1, and so on, have.
func caps(l ...complex128) match.Caps {
	c := match.None()
	copy(c[:], l)
	return c
}

func TestP9_3Fill(t *testing.T) {
	c := caps(1+5i, 1+2i, 3+3i, 2+9i)
	for _, x := range []struct{ l, want string }{
		{"", ""}, {"abc", "abc"}, {"&", "ello"}, {`\1`, "e"}, {`<&\1>`, "<elloe>"}, {`\2`, ""}, {`[\2]`, "[]"}, {`\3`, "llo"}, {`\4`, ""}, {`a\9b`, "ab"}, {"&&&", "elloelloello"},
		{`\&\\1\n`, "&\\1\n"}, {`\1-&-\1`, "e-ello-e"},
	} {
		if got := Fill(parsed(t, x.l), "hello", c); got != x.want {
			t.Errorf("%s: %q", x.l, got)
		}
	}
	if got := Fill(nil, "hello", c); got != "" {
		t.Errorf("%q", got)
	}
	nine := match.None()
	for n := range nine {
		nine[n], _ = span.Of(n, n+1)
	}
	if got := Fill(parsed(t, `\9\8\7\6\5\4\3\2\1&`), "abcdefghij", nine); got != "jihgfedcba" {
		t.Errorf("%q", got)
	}
	// What was found is not looked through once more.
	if got := Fill(parsed(t, "&"), `a&\1`, caps(0+4i)); got != `a&\1` {
		t.Errorf("%q", got)
	}
}

func TestP9_3FillOfOddOnes(t *testing.T) {
	nan, inf := math.NaN(), math.Inf(1)
	for _, s := range []complex128{-1 - 1i, 3 + 1i, 0.5 + 1i, complex(nan, nan), complex(0, inf), complex(-inf, inf), 7 + 9i, 1e300 + 1e300i} {
		if got := Fill([]Part{text("<"), group(0), text(">")}, "hello", caps(s)); got != "<>" {
			t.Errorf("%v: %q", s, got)
		}
	}
	for _, n := range []int{10, 11, -2, math.MaxInt, math.MinInt} {
		if got := Fill([]Part{text("<"), group(n), text(">")}, "hello", caps(0+5i)); got != "<>" {
			t.Errorf("%v: %q", n, got)
		}
	}
	if got := Fill([]Part{text("a"), text("b"), text("")}, "hello", caps(0+5i)); got != "ab" {
		t.Errorf("%q", got)
	}
	var zero match.Caps
	if got := Fill([]Part{text("<"), group(0), group(1), text(">")}, "hello", zero); got != "<>" {
		t.Errorf("%q", got)
	}
}

func TestP9_3Sub(t *testing.T) {
	for _, x := range []struct {
		p, t, l string
		nth     int
		all     bool
		want    string
		n       int
	}{
		{"x*", "abc", "-", 1, true, "-a-b-c-", 4}, {"x*", "abc", "-", 1, false, "-abc", 1}, {"x*", "abc", "-", 2, false, "a-bc", 1}, {"x*", "abc", "-", 4, false, "abc-", 1}, {"x*", "abc", "-", 5, false, "abc", 0},
		{"a", "banana", "o", 1, false, "bonana", 1}, {"a", "banana", "o", 2, false, "banona", 1}, {"a", "banana", "o", 3, false, "banano", 1}, {"a", "banana", "o", 4, false, "banana", 0},
		{"a", "banana", "o", 1, true, "bonono", 3}, {"a", "banana", "o", 2, true, "banono", 2}, {"a", "banana", "o", 3, true, "banano", 1}, {"a", "banana", "o", 4, true, "banana", 0},
		// A number below 1 is 1.
		{"a", "banana", "o", 0, false, "bonana", 1}, {"a", "banana", "o", -1, false, "bonana", 1}, {"a", "banana", "o", math.MinInt, false, "bonana", 1}, {"a", "banana", "o", 0, true, "bonono", 3},
		{"a", "banana", "o", math.MinInt, true, "bonono", 3}, {"a", "banana", "o", math.MaxInt, false, "banana", 0}, {"a", "banana", "o", math.MaxInt, true, "banana", 0},
		// Each has its own groups.
		{"(a)|(b)", "abab", `<\1\2>`, 1, true, "<a><b><a><b>", 4}, {"(a)|(b)", "abab", `<\2>`, 1, true, "<><b><><b>", 4}, {"(a)|(b)", "abab", `<\2&>`, 3, true, "ab<a><bb>", 2},
		{"(.)(.)", "abcde", `\2\1`, 1, true, "badce", 2}, {"(.)(.)", "abcde", `\2\1`, 2, false, "abdce", 1}, {"a*", "baaac", "x", 1, true, "xbxcx", 3}, {"a*", "baaac", "[&]", 1, true, "[]b[aaa]c[]", 3},
		{"a+", "aabaab", "", 1, true, "bb", 2}, {"a", "aaa", "", 1, true, "", 3}, {"a", "aaa", "", 2, false, "aa", 1}, {".*", "abc", "&&", 1, true, "abcabc", 1}, {".*", "", "x", 1, true, "x", 1},
		{"", "ab", "-", 1, true, "-a-b-", 3}, {"", "", "-", 1, false, "-", 1}, {"^", "ab", "-", 1, true, "-ab", 1}, {"$", "ab", "-", 1, true, "ab-", 1}, {"^|$", "ab", "-", 2, false, "ab-", 1},
		// What was put is not looked through: neither for finds, nor for what a replacement says.
		{"a", "aa", "aa", 1, true, "aaaa", 2}, {"a", "ab", "b", 1, true, "bb", 1}, {"^a", "aaa", "", 1, true, "aa", 1}, {".", `&\`, "[&]", 1, true, `[&][\]`, 2},
		// A group that the pattern has not has nothing.
		{"a", "ab", `<\1\9>`, 1, true, "<>b", 1}, {"a", "a\nb\xff", `\n&`, 1, true, "\na\nb\xff", 1}, {"\n", "a\nb\n", ";", 1, true, "a;b;", 2}, {"a", "bcd", "x", 1, true, "bcd", 0},
	} {
		got, n := Sub(extended(t, x.p), x.t, parsed(t, x.l), x.nth, x.all)
		if got != x.want || n != x.n {
			t.Errorf("%s in %q by %q, %v %v: %q %v", x.p, x.t, x.l, x.nth, x.all, got, n)
		}
	}
	if got, n := Sub(basic(t, `\(.\)\1`), "abbccd", parsed(t, `<\1>`), 1, true); got != "a<b><c>d" || n != 2 {
		t.Errorf("%q %v", got, n)
	}
}

func TestP9_3SubOfOddOnes(t *testing.T) {
	a := extended(t, "(a)")
	for _, x := range []struct {
		l    []Part
		want string
	}{
		{nil, "b"}, {[]Part{group(10)}, "b"}, {[]Part{group(-2)}, "b"}, {[]Part{text("")}, "b"}, {[]Part{text("x"), text("y")}, "xyb"}, {[]Part{group(1), text(""), group(math.MaxInt)}, "ab"},
	} {
		if got, n := Sub(a, "ab", x.l, 1, true); got != x.want || n != 1 {
			t.Errorf("%v: %q %v", x.l, got, n)
		}
	}
	node := a[0]
	for i, p := range [][]rx.Node{
		nil, {}, {{Kind: rx.Bytes}}, {{Kind: 9}}, {{Kind: -1}}, {{Kind: rx.Ref, N: 1}}, {node, node}, {{Kind: rx.Empty, N: 1}}, {{Kind: rx.Empty}, {Kind: rx.Empty}},
		{node, {Kind: rx.Group, A: 0, N: 2}}, {{Kind: rx.Bytes, Set: set.Of("a"), N: 1}},
	} {
		for _, all := range []bool{false, true} {
			if got, n := Sub(p, "aab", []Part{text("x")}, 1, all); got != "aab" || n != 0 {
				t.Errorf("%d: %q %v", i, got, n)
			}
		}
	}
}

// naiveSub is the chapter's Sub, find by find, from the last one on.
func naiveSub(p []rx.Node, t string, l []Part, nth int, all bool) (string, int) {
	now, count := t, 0
	for i, c := range slices.Backward(find.All(p, t)) {
		number := i + 1
		isFirst := number == nth || nth < 1 && number == 1
		if !isFirst && (!all || number < nth) {
			continue
		}
		put := ""
		for _, x := range l {
			if x.Group == -1 {
				put += x.Text
			} else {
				put += match.Group(t, c, x.Group)
			}
		}
		now = now[:span.From(c[0])] + put + now[span.To(c[0]):]
		count++
	}
	return now, count
}

// patterns are some of each kind.
func patterns(t *testing.T) (all [][]rx.Node) {
	for _, s := range []string{"", "a", "a*", "a|b", "(a)|(b)", "(a*)(b*)", "^", "$", "^a*", "(b*)$", "^|b", "(a)b?|$", "(ab)*c?", "[^a]+", "(.)(.)", ".*", "(.)?c"} {
		all = append(all, extended(t, s))
	}
	for _, s := range []string{`\(.\)\1`, `\(a*\)b*\1`} {
		all = append(all, basic(t, s))
	}
	return append(all, nil)
}

func TestP9_3AllShortOnes(t *testing.T) {
	var fills [][]Part
	for _, s := range []string{"", "-", "&", `<\1&\2>`, `\2a\1`} {
		fills = append(fills, parsed(t, s))
	}
	texts := textsOf("abc", 4)
	for i, p := range patterns(t) {
		for _, s := range texts {
			for _, l := range fills {
				for nth := -1; nth <= 6; nth++ {
					for _, all := range []bool{false, true} {
						got, n := Sub(p, s, l, nth, all)
						if want, m := naiveSub(p, s, l, nth, all); got != want || n != m {
							t.Fatalf("%d in %q by %v, %v %v: %q %v, not %q %v", i, s, l, nth, all, got, n, want, m)
						}
					}
				}
			}
		}
	}
}

func TestP9_3LongTexts(t *testing.T) {
	s := strings.Repeat("xay", 200)
	if got, n := Sub(extended(t, "(a)"), s, parsed(t, `<\1>`), 1, true); got != strings.Repeat("x<a>y", 200) || n != 200 {
		t.Error(n)
	}
	if got, n := Sub(extended(t, "(a)"), s, parsed(t, "b"), 200, true); got != strings.Repeat("xay", 199)+"xby" || n != 1 {
		t.Error(n)
	}
	if got, n := Sub(extended(t, ".*"), s, slices.Repeat([]Part{group(0)}, 600), 1, true); got != strings.Repeat(s, 600) || n != 1 {
		t.Error(len(got), n)
	}
}

func TestP9_3NothingIsChanged(t *testing.T) {
	p, l := extended(t, "(a)(b)*"), parsed(t, `x\2&\1`)
	wasP, wasL := slices.Clone(p), slices.Clone(l)
	c := caps(0+2i, 0+1i)
	wasC := c
	for range 2 {
		Sub(p, "abab", l, 1, true)
		Fill(l, "abab", c)
		Most(l)
		if _, e := Print(l); e != api.OK {
			t.Error(e)
		}
	}
	if !slices.Equal(p, wasP) || !slices.Equal(l, wasL) || c != wasC {
		t.Error(p, l, c)
	}
}

// isReplacement tells whether l is what P9.2 prints.
func isReplacement(l []Part) bool {
	wasBytes := false
	for _, x := range l {
		is := x.Group == -1
		if is && (x.Text == "" || wasBytes) || !is && (x.Text != "" || x.Group < 0 || x.Group > 9) {
			return false
		}
		wasBytes = is
	}
	return true
}

// checkPrinted checks that l is printed, just if it is a replacement, and parsed again to the same.
func checkPrinted(t *testing.T, l []Part) {
	t.Helper()
	s, e := Print(l)
	if !isReplacement(l) {
		if s != "" || e != api.ErrArg {
			t.Fatalf("%v: %q %v", l, s, e)
		}
		return
	}
	if same, at, f := Parse(s); e != api.OK || f != api.OK || at != 0 || !slices.Equal(same, l) {
		t.Fatalf("%v: %q %v, %v %v %v", l, s, e, same, at, f)
	}
}

func TestP9_4PrintedAndParsed(t *testing.T) {
	for _, s := range textsOf("&\\/n\n10a", 5) {
		if l, _, e := Parse(s); e == api.OK {
			if !isReplacement(l) {
				t.Fatalf("%q: %v", s, l)
			}
			checkPrinted(t, l)
		}
	}
	for b := range 256 {
		one := string([]byte{byte(b)})
		checkPrinted(t, []Part{text(one)})
		checkPrinted(t, []Part{group(1), text(one + "1" + one), group(0), text("n" + one)})
	}
}

func TestP9_4PrintedByChance(t *testing.T) {
	r := rand.New(rand.NewPCG(9, 4))
	for range 20000 {
		var l []Part
		for range r.IntN(8) {
			x := group(r.IntN(13) - 1)
			if r.IntN(3) == 0 {
				b := make([]byte, r.IntN(5))
				for i := range b {
					b[i] = "&\\\n/n1a\xff"[r.IntN(8)]
				}
				x = text(string(b))
			}
			l = append(l, x)
		}
		checkPrinted(t, l)
	}
}

func TestP9_4WithoutAFind(t *testing.T) {
	r := rand.New(rand.NewPCG(4, 9))
	for range 300 {
		b := make([]byte, r.IntN(40))
		for i := range b {
			b[i] = byte(r.IntN(256))
		}
		s := strings.ReplaceAll(string(b), "a", "b")
		for _, p := range []string{"a", "b*a", "(a)|a$", "^a", ".{41}"} {
			for nth := range 3 {
				got, n := Sub(extended(t, p), s, parsed(t, `x&\1`), nth, nth != 1)
				if got != s || n != 0 {
					t.Fatalf("%s in %q: %q %v", p, s, got, n)
				}
			}
		}
	}
}
