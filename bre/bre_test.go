package bre

import (
	"fmt"
	"regexp"
	"slices"
	"strconv"
	"strings"
	"testing"

	"calender/api"
	"calender/rx"
	"calender/set"
)

// dot is the rx text of all bytes.
func dot() string { return hex(all()) }

// hex is the rx text of the bytes of s.
func hex(s set.Set) string {
	var told strings.Builder
	told.WriteString("[")
	for _, b := range []byte(set.Bytes(s)) {
		fmt.Fprintf(&told, "%02x", b)
	}
	return told.String() + "]"
}

// right is a text and the rx text of its pattern.
type right struct{ s, want string }

func rightOnes() []right {
	return []right{
		{"", "e"}, {"a", "[61]"}, {"ab", "&[61][62]"}, {"abc", "&[61]&[62][63]"}, {"a*b", "&*0,-1;[61][62]"},
		{" ", "[20]"}, {"\x00\xff", "&[00][ff]"}, {"\n", "[0a]"}, {"\xc3\xa4", "&[c3][a4]"},
		{"]", "[5d]"}, {"{", "[7b]"}, {"}", "[7d]"}, {"(", "[28]"}, {")", "[29]"}, {"|", "[7c]"}, {"+", "[2b]"}, {"?", "[3f]"}, {"-", "[2d]"}, {"/", "[2f]"}, {"&", "[26]"},
		{"a{2}", "&[61]&[7b]&[32][7d]"}, {"(a)", "&[28]&[61][29]"}, {"a|b", "&[61]&[7c][62]"}, {"a+", "&[61][2b]"},
		{".", dot()}, {".*", "*0,-1;" + dot()}, {"a.b", "&[61]&" + dot() + "[62]"},
		{"^", "^"}, {"$", "$"}, {"^$", "&^$"}, {"^a", "&^[61]"}, {"a$", "&[61]$"}, {"^a$", "&^&[61]$"}, {"^ab$", "&^&[61]&[62]$"},
		{"a^", "&[61][5e]"}, {"a^b", "&[61]&[5e][62]"}, {"^^", "&^[5e]"}, {"^^^", "&^&[5e][5e]"}, {"^^*", "&^*0,-1;[5e]"}, {"a^*", "&[61]*0,-1;[5e]"}, {"$^", "&[24][5e]"}, {"$^$", "&[24]&[5e]$"}, {"^^$", "&^&[5e]$"},
		{"$a", "&[24][61]"}, {"a$b", "&[61]&[24][62]"}, {"$$", "&[24]$"}, {"$$$", "&[24]&[24]$"}, {"$*", "*0,-1;[24]"}, {"a$*", "&[61]*0,-1;[24]"}, {`$\{2\}`, "*2,2;[24]"}, {"^$$", "&^&[24]$"}, {"^$a", "&^&[24][61]"}, {`$)`, "&[24][29]"}, {`$\(a\)`, "&[24]([61])"},
		{"*", "[2a]"}, {"**", "*0,-1;[2a]"}, {"*a", "&[2a][61]"}, {"^*", "&^[2a]"}, {"^**", "&^*0,-1;[2a]"}, {"^*a*", "&^&[2a]*0,-1;[61]"}, {`*\{2\}`, "*2,2;[2a]"}, {`^*\{2,\}`, "&^*2,-1;[2a]"}, {"*$", "&[2a]$"}, {"^*$", "&^&[2a]$"},
		{`\(*\)`, "([2a])"}, {`\(**\)`, "(*0,-1;[2a])"}, {`\(^*\)`, "(&^[2a])"}, {`\(^**a\)`, "(&^&*0,-1;[2a][61])"}, {`\(a\)*`, "*0,-1;([61])"}, {`a\(*\)`, "&[61]([2a])"},
		{"a*", "*0,-1;[61]"}, {"a*b*", "&*0,-1;[61]*0,-1;[62]"}, {"aa*", "&[61]*0,-1;[61]"}, {"[ab]*", "*0,-1;[6162]"},
		{`a\{1\}`, "*1,1;[61]"}, {`a\{3\}`, "*3,3;[61]"}, {`a\{255\}`, "*255,255;[61]"}, {`a\{0,\}`, "*0,-1;[61]"}, {`a\{1,\}`, "*1,-1;[61]"}, {`a\{255,\}`, "*255,-1;[61]"},
		{`a\{0,1\}`, "*0,1;[61]"}, {`a\{2,5\}`, "*2,5;[61]"}, {`a\{2,2\}`, "*2,2;[61]"}, {`a\{0,255\}`, "*0,255;[61]"}, {`a\{255,255\}`, "*255,255;[61]"},
		{`a\{001\}`, "*1,1;[61]"}, {`a\{000,\}`, "*0,-1;[61]"}, {`a\{00,001\}`, "*0,1;[61]"}, {`a\{09,010\}`, "*9,10;[61]"}, {`a\{2\}b`, "&*2,2;[61][62]"}, {`a\{2\}\(b\)`, "&*2,2;[61]([62])"}, {`.\{2,3\}$`, "&*2,3;" + dot() + "$"}, {`\n\{2\}`, "*2,2;[0a]"},
		{`\(a\)`, "([61])"}, {`\(ab\)`, "(&[61][62])"}, {`\(a\)\(b\)`, "&([61])([62])"}, {`\(\(a\)\)`, "(([61]))"}, {`\(a\(b\)c\)d`, "&(&[61]&([62])[63])[64]"}, {`\(a*\)*`, "*0,-1;(*0,-1;[61])"}, {`\(a\)\{2,3\}`, "*2,3;([61])"}, {`a\(b\)*c`, "&[61]&*0,-1;([62])[63]"},
		{`\(^\)`, "(^)"}, {`\($\)`, "($)"}, {`\(^$\)`, "(&^$)"}, {`\(^a$\)`, "(&^&[61]$)"}, {`a\(^b\)`, "&[61](&^[62])"}, {`\(a$\)b`, "&(&[61]$)[62]"}, {`\(a$b\)`, "(&[61]&[24][62])"}, {`\(a^b\)`, "(&[61]&[5e][62])"}, {`\($$\)`, "(&[24]$)"}, {`^\(a\)$`, "&^&([61])$"}, {`\(^\)*`, "*0,-1;(^)"}, {`\(a\)^`, "&([61])[5e]"}, {`\(\(^a$\)\)`, "((&^&[61]$))"}, {`\(^^\)`, "(&^[5e])"}, {`\($)\)`, "(&[24][29])"}, {`\($a\)`, "(&[24][61])"},
		{`\(a\)\1`, `&([61])\1`}, {`\(a\)\1*`, `&([61])*0,-1;\1`}, {`\(a\)b\1\{2\}`, `&([61])&[62]*2,2;\1`}, {`\(\(a\)\2\)\1`, `&(&([61])\2)\1`}, {`\(a\)\(\1\)\2`, `&([61])&(\1)\2`}, {`\(a\)\11`, `&([61])&\1[31]`}, {`\(\(a\)\(b\2\)\)\3\1`, `&(&([61])(&[62]\2))&\3\1`}, {`\(a\)^\1$`, `&([61])&[5e]&\1$`}, {`\(a\)*\1`, `&*0,-1;([61])\1`},
		{`\n`, "[0a]"}, {`\n*`, "*0,-1;[0a]"}, {`\.`, "[2e]"}, {`\[`, "[5b]"}, {`\\`, "[5c]"}, {`\*`, "[2a]"}, {`\^`, "[5e]"}, {`\$`, "[24]"}, {`\/`, "[2f]"}, {`\**`, "*0,-1;[2a]"}, {`a\*`, "&[61][2a]"}, {`^\*`, "&^[2a]"}, {`\^a`, "&[5e][61]"}, {`a\$`, "&[61][24]"}, {`\$$`, "&[24]$"}, {`\\n`, "&[5c][6e]"}, {`\\(a)`, "&[5c]&[28]&[61][29]"}, {`\^*`, "*0,-1;[5e]"}, {`\(\*\)`, "([2a])"}, {`\[a]`, "&[5b]&[61][5d]"}, {`\.\{2\}`, "*2,2;[2e]"},
		{"[a]", "[61]"}, {"[a-c]x", "&[616263][78]"}, {"[]a]", "[5d61]"}, {"x[^\x01-\xff]", "&[78][00]"}, {"[*]", "[2a]"}, {"[a]]", "&[61][5d]"}, {`[\n]`, "[0a]"}, {`[\]]`, "&[5c][5d]"}, {`[\(]a`, "&[285c][61]"}, {"[^]]", hex(set.Not(set.Of("]")))}, {"[[:digit:]]*", "*0,-1;" + hex(classOf("digit"))}, {`[a]\{2\}`, "*2,2;[61]"}, {"^[ab]$", "&^&[6162]$"}, {`\([)\]\)`, `([295c])`}, {`[$]$`, "&[24]$"}, {"[[.].]]b", "&[5d][62]"}, {"[a-c-]*", "*0,-1;[2d616263]"},
	}
}

// wrongOne is a text that is no pattern, and what is said of it.
type wrongOne struct {
	s     string
	place int
	e     api.Errno
}

func wrongOnes() []wrongOne {
	return []wrongOne{
		{"[", 0, api.ErrSet}, {"a[", 1, api.ErrSet}, {"a[]", 1, api.ErrSet}, {"[^", 0, api.ErrSet}, {"ab[b-a]c", 2, api.ErrSet}, {"a*[[:foo:]]", 2, api.ErrSet}, {`\([a\)`, 2, api.ErrSet}, {"[^\x00-\xff]", 0, api.ErrSet}, {"[a][", 3, api.ErrSet}, {"^[", 1, api.ErrSet}, {"[a-c-e]", 0, api.ErrSet}, {"$[", 1, api.ErrSet}, {`\\[`, 2, api.ErrSet},
		{`\(`, 0, api.ErrParen}, {`\(a`, 0, api.ErrParen}, {`a\(b`, 1, api.ErrParen}, {`\(a\(b\)`, 0, api.ErrParen}, {`\(a\)\(b`, 5, api.ErrParen}, {`\(^`, 0, api.ErrParen}, {`\($`, 0, api.ErrParen}, {`\(a)`, 0, api.ErrParen}, {`\([)]`, 0, api.ErrParen}, {`\(a\\)`, 0, api.ErrParen}, {`\(a*`, 0, api.ErrParen}, {`\(*`, 0, api.ErrParen},
		{`\(\(`, 2, api.ErrParen}, {`\(\(a`, 2, api.ErrParen}, {`a\(b\(c\(d\)`, 4, api.ErrParen}, {`\(a\(b`, 3, api.ErrParen},
		{`\(\)`, 0, api.ErrParen}, {`a\(\)`, 1, api.ErrParen}, {`\(a\(\)\)`, 3, api.ErrParen}, {`\(\)*`, 0, api.ErrParen}, {`\(\)\)`, 0, api.ErrParen}, {`\(a\)\(\)`, 5, api.ErrParen}, {`\(\(\)`, 2, api.ErrParen},
		{`\)`, 0, api.ErrParen}, {`a\)`, 1, api.ErrParen}, {`^\)`, 1, api.ErrParen}, {`$\)`, 1, api.ErrParen}, {`a$\)b`, 2, api.ErrParen}, {`*\)`, 1, api.ErrParen}, {`\(a\)\)`, 5, api.ErrParen}, {`a*\)`, 2, api.ErrParen}, {`^$\)`, 2, api.ErrParen},
		{`a\{`, 1, api.ErrCount}, {`a\{1`, 1, api.ErrCount}, {`a\{1,`, 1, api.ErrCount}, {`a\{1,2`, 1, api.ErrCount}, {`a\{1,2\`, 1, api.ErrCount}, {`a\{1}`, 1, api.ErrCount}, {`a\{\}`, 1, api.ErrCount}, {`a\{,\}`, 1, api.ErrCount}, {`a\{,2\}`, 1, api.ErrCount}, {`a\{x\}`, 1, api.ErrCount}, {`a\{1,x\}`, 1, api.ErrCount}, {`a\{1x\}`, 1, api.ErrCount}, {`a\{ 1\}`, 1, api.ErrCount}, {`a\{1 \}`, 1, api.ErrCount}, {`a\{1, 2\}`, 1, api.ErrCount}, {`a\{-1\}`, 1, api.ErrCount}, {`a\{+1\}`, 1, api.ErrCount}, {`a\{1,-1\}`, 1, api.ErrCount}, {`a\{1,2,3\}`, 1, api.ErrCount}, {`a\{1,,2\}`, 1, api.ErrCount}, {`a\{1_0\}`, 1, api.ErrCount},
		{`a\{0\}`, 1, api.ErrCount}, {`a\{0,0\}`, 1, api.ErrCount}, {`a\{000\}`, 1, api.ErrCount}, {`a\{256\}`, 1, api.ErrCount}, {`a\{256,\}`, 1, api.ErrCount}, {`a\{1,256\}`, 1, api.ErrCount}, {`a\{256,256\}`, 1, api.ErrCount}, {`a\{999\}`, 1, api.ErrCount}, {`a\{0001\}`, 1, api.ErrCount}, {`a\{0,0001\}`, 1, api.ErrCount}, {`a\{1000\}`, 1, api.ErrCount}, {`a\{1,0255\}`, 1, api.ErrCount}, {`a\{2,1\}`, 1, api.ErrCount}, {`a\{255,254\}`, 1, api.ErrCount}, {`a\{1,0\}`, 1, api.ErrCount}, {`a\{99999999999999999999\}`, 1, api.ErrCount}, {`ab\(c\)\{2,1\}`, 7, api.ErrCount}, {`$\{0\}`, 1, api.ErrCount}, {`\(a\{0\}\)`, 3, api.ErrCount},
		{"a**", 2, api.ErrCount}, {`a*\{2\}`, 2, api.ErrCount}, {`a\{2\}*`, 6, api.ErrCount}, {`a\{2\}\{3\}`, 6, api.ErrCount}, {`a*\{x`, 2, api.ErrCount}, {"***", 2, api.ErrCount}, {"^***", 3, api.ErrCount}, {"ab***", 3, api.ErrCount}, {`\(a\)**`, 6, api.ErrCount}, {`\(a**\)`, 4, api.ErrCount}, {`\(a\)\1**`, 8, api.ErrCount}, {"[a]**", 4, api.ErrCount}, {`a\{2,1\}*`, 1, api.ErrCount},
		{`\{`, 0, api.ErrCount}, {`\{1\}`, 0, api.ErrCount}, {`^\{1\}`, 1, api.ErrCount}, {`\(\{1\}a\)`, 2, api.ErrCount}, {`\(^\{1\}a\)`, 3, api.ErrCount}, {`a\(\{`, 3, api.ErrCount}, {`^\{`, 1, api.ErrCount},
		{`\1`, 0, api.ErrRef}, {`a\1`, 1, api.ErrRef}, {`\(a\1\)`, 3, api.ErrRef}, {`\(a\)\2`, 5, api.ErrRef}, {`\(\(a\)\1\)`, 7, api.ErrRef}, {`\1\(a\)`, 0, api.ErrRef}, {`\(a\)\9`, 5, api.ErrRef}, {`\(\1\)`, 2, api.ErrRef}, {`\(a\)\(b\2\)`, 8, api.ErrRef}, {`\9`, 0, api.ErrRef}, {`\(a\)*\2`, 6, api.ErrRef},
		{`\`, 0, api.ErrRx}, {`a\`, 1, api.ErrRx}, {`a*\`, 2, api.ErrRx}, {`\0`, 0, api.ErrRx}, {`\a`, 0, api.ErrRx}, {`\]`, 0, api.ErrRx}, {`\}`, 0, api.ErrRx}, {`a\}`, 1, api.ErrRx}, {`\+`, 0, api.ErrRx}, {`\?`, 0, api.ErrRx}, {`a\|b`, 1, api.ErrRx}, {`\-`, 0, api.ErrRx}, {`\t`, 0, api.ErrRx}, {`\N`, 0, api.ErrRx}, {"\\\n", 0, api.ErrRx}, {"\\\x00", 0, api.ErrRx}, {"\\\xff", 0, api.ErrRx}, {`\ `, 0, api.ErrRx}, {`\&`, 0, api.ErrRx}, {`\w`, 0, api.ErrRx}, {`\\\`, 2, api.ErrRx}, {`\(a\)\0`, 5, api.ErrRx}, {`\:`, 0, api.ErrRx}, {`^\`, 1, api.ErrRx},
		// Of many that are wrong, the one that is met first.
		{`\(a\9`, 3, api.ErrRef}, {`\(a[`, 3, api.ErrSet}, {`\(a**`, 4, api.ErrCount}, {`\(a\q`, 3, api.ErrRx}, {`\(\)\9`, 0, api.ErrParen}, {`\(\)[`, 0, api.ErrParen}, {`a\)[`, 1, api.ErrParen}, {`[\)`, 0, api.ErrSet}, {`\9\(`, 0, api.ErrRef}, {`a**[`, 2, api.ErrCount}, {`\q**`, 0, api.ErrRx}, {`\(\(\q`, 4, api.ErrRx}, {`\(a\)\)\(\)`, 5, api.ErrParen}, {`\(\{\)`, 2, api.ErrCount}, {`\(\`, 2, api.ErrRx}, {`\(a\{1\)`, 3, api.ErrCount},
	}
}

func TestP4_3Parse(t *testing.T) {
	for _, x := range rightOnes() {
		l, place, e := Parse(x.s)
		if !rx.May(l) || rx.Text(l) != x.want || place != 0 || e != api.OK {
			t.Errorf("%q %q, not %q: %d %d", x.s, rx.Text(l), x.want, place, e)
		}
	}
}

func TestP4_3ParseOfWrongOnes(t *testing.T) {
	for _, x := range wrongOnes() {
		if l, place, e := Parse(x.s); len(l) != 0 || place != x.place || e != x.e {
			t.Errorf("%q %q %d %d", x.s, rx.Text(l), place, e)
		}
	}
}

// Each byte by itself, and behind a \.
func TestP4_3ParseOfEachByte(t *testing.T) {
	for i := range 256 {
		b := string([]byte{byte(i)})
		l, place, e := Parse("x" + b + "y")
		switch b {
		case "[":
			if len(l) != 0 || place != 1 || e != api.ErrSet {
				t.Errorf("%q %q %d %d", b, rx.Text(l), place, e)
			}
		case `\`, "*", ".":
			// These are tried elsewhere.
		default:
			if want := "&[78]&" + hex(set.Of(b)) + "[79]"; rx.Text(l) != want || e != api.OK {
				t.Errorf("%q %q %d %d", b, rx.Text(l), place, e)
			}
		}
		l, place, e = Parse(`x\` + b)
		switch {
		case b == "n" || strings.Contains(`.[\*^$/`, b):
			if want := "&[78]" + hex(set.Of(strings.Replace(b, "n", "\n", 1))); rx.Text(l) != want || e != api.OK {
				t.Errorf("%q %q %d %d", b, rx.Text(l), place, e)
			}
		default:
			want := api.ErrRx
			switch {
			case b == "(" || b == ")":
				want = api.ErrParen
			case b == "{":
				want = api.ErrCount
			case b >= "1" && b <= "9":
				want = api.ErrRef
			}
			if len(l) != 0 || place != 1 || e != want {
				t.Errorf("%q %q %d %d", b, rx.Text(l), place, e)
			}
		}
	}
}

func TestP4_3Counts(t *testing.T) {
	for m := range 300 {
		for _, n := range []int{0, 1, m - 1, m, m + 1, 254, 255, 256, 300} {
			s := "a\\{" + strconv.Itoa(m) + "," + strconv.Itoa(n) + "\\}"
			l, place, e := Parse(s)
			if m <= 255 && n >= m && n > 0 && n <= 255 {
				if rx.Text(l) != fmt.Sprintf("*%d,%d;[61]", m, n) || place != 0 || e != api.OK {
					t.Error(s, rx.Text(l), place, e)
				}
			} else if len(l) != 0 || place != 1 || e != api.ErrCount {
				t.Error(s, rx.Text(l), place, e)
			}
		}
	}
}

func TestP4_3Groups(t *testing.T) {
	open, shut := `\(`, `\)`
	for n := 1; n <= 12; n++ {
		for _, x := range []struct {
			s, want string
			tenth   int
		}{
			{strings.Repeat(`\(a\)`, n), "", 45},
			{strings.Repeat(open, n) + "a" + strings.Repeat(shut, n), strings.Repeat("(", n) + "[61]" + strings.Repeat(")", n), 18},
			{strings.Repeat(`\(a`, n) + strings.Repeat(shut, n), strings.Repeat("(&[61]", n-1) + "([61]" + strings.Repeat(")", n), 27},
		} {
			l, place, e := Parse(x.s)
			if n > 9 {
				if len(l) != 0 || place != x.tenth || e != api.ErrParen {
					t.Error(x.s, rx.Text(l), place, e)
				}
			} else if rx.Groups(l) != n || x.want != "" && rx.Text(l) != x.want || e != api.OK {
				t.Error(x.s, rx.Text(l), place, e)
			}
		}
	}
	// As it begins: what would be wrong in the tenth one is not met any more, what is wrong ahead of it is.
	nine := strings.Repeat(`\(a\)`, 9)
	for _, x := range []wrongOne{
		{nine + `\(`, 45, api.ErrParen}, {nine + `\(\)`, 45, api.ErrParen}, {nine + `\([`, 45, api.ErrParen}, {nine + `\(a\)[`, 45, api.ErrParen}, {nine + `[\(a\)`, 45, api.ErrSet},
		{nine + `\)`, 45, api.ErrParen}, {strings.Repeat(open, 10), 18, api.ErrParen}, {strings.Repeat(open, 9), 16, api.ErrParen}, {strings.Repeat(open, 100000), 18, api.ErrParen},
	} {
		if l, place, e := Parse(x.s); len(l) != 0 || place != x.place || e != x.e {
			t.Errorf("%q %q %d %d", x.s[:min(len(x.s), 60)], rx.Text(l), place, e)
		}
	}
	if l, _, e := Parse(nine + `\9\1`); !rx.Refs(l) || e != api.OK {
		t.Error(rx.Text(l), e)
	}
}

func TestP4_3Wide(t *testing.T) {
	a := strings.Repeat("a", 59)
	for _, x := range []struct {
		s     string
		nodes int
	}{
		{a, 117}, {a + "b", 119}, {a + "b*", 120}, {"^" + a, 119}, {"^" + a[:58] + "$", 119}, {a[:57] + `\(b\)`, 116}, {a + `\(b\)`, 120}, {a[:58] + `\(b\)\1`, 120}, {a[:58] + `\(bc\{2\}\)`, 121},
		{a + "bc", 121}, {a + "b**", -1}, {a + "b*c", 122}, {a + `\(b*\)`, 121}, {a + "b$", 121}, {"^" + a + "*b", 122}, {strings.Repeat("a", 600), 1199}, {strings.Repeat("[a]", 61), 121}, {strings.Repeat("a*", 40), 119}, {strings.Repeat("a*", 41), 122},
	} {
		l, place, e := Parse(x.s)
		switch {
		case x.nodes < 0:
			if len(l) != 0 || place != 61 || e != api.ErrCount {
				t.Error(x.s, len(l), place, e)
			}
		case x.nodes > api.MaxNodes:
			if len(l) != 0 || place != 0 || e != api.ErrWide {
				t.Error(x.s, len(l), place, e)
			}
		case len(l) != x.nodes || !rx.May(l) || place != 0 || e != api.OK:
			t.Error(x.s, len(l), place, e)
		}
	}
}

// Behind all others: whatever is wrong behind too many nodes is told, and ErrWide is not.
func TestP4_3WideIsLast(t *testing.T) {
	for _, n := range []int{61, 100, 600, 100000} {
		a := strings.Repeat("a", n)
		for _, x := range wrongOnes() {
			// These mean something else at the beginning of a row.
			if x.s[0] == '^' || x.s[0] == '*' || strings.HasPrefix(x.s, `\{`) {
				continue
			}
			if l, place, e := Parse(a + x.s); len(l) != 0 || place != n+x.place || e != x.e {
				t.Errorf("%d a, %q %d %d", n, x.s, place, e)
			}
		}
		if _, place, e := Parse(a); place != 0 || e != api.ErrWide {
			t.Error(n, place, e)
		}
	}
}

// said is what Parse says of a text: the rx text of its pattern, or what is wrong, and where.
type said struct {
	text  string
	place int
	e     api.Errno
}

// piece is one of the pieces that a text is of, one behind the other.
type piece struct {
	s     string
	place int
}

// pieces are those of s; what begins a list that is none is a piece of one byte.
func pieces(s string) (l []piece) {
	for at := 0; at < len(s); {
		n := 1
		switch s[at] {
		case '[':
			if _, m, e := Bracket(s[at:]); e == api.OK {
				n = m
			}
		case '\\':
			n = min(2, len(s)-at)
			if end := strings.Index(s[at:], `\}`); end >= 0 && isTold(s[at:at+end+2]) {
				n = end + 2
			}
		}
		l = append(l, piece{s[at : at+n], at})
		at += n
	}
	return l
}

// times is the form of a number of times, but for *.
var times = regexp.MustCompile(`^\\\{([0-9]{1,3})(,([0-9]{1,3})?)?\\\}$`)

// isTold tells whether s is a number of times such as may be, but for *.
func isTold(s string) bool {
	l := times.FindStringSubmatch(s)
	if l == nil {
		return false
	}
	m, _ := strconv.Atoi(l[1])
	n, _ := strconv.Atoi(l[3])
	switch l[2] {
	case "":
		return m > 0 && m < 256
	case ",":
		return m < 256
	}
	return m <= n && n > 0 && n < 256
}

// open is a row that is read, with the group that it is of.
type open struct {
	place, number int
	parts         []string
	hasTimes      bool
}

// isFirst tells whether what follows is the first of its row, but for a Begin.
func (o open) isFirst() bool { return len(o.parts) == 0 || len(o.parts) == 1 && o.parts[0] == "^" }

func (o open) whole() string {
	last := len(o.parts) - 1
	told := o.parts[last]
	for _, p := range slices.Backward(o.parts[:last]) {
		told = "&" + p + told
	}
	return told
}

// sayOf is what the words of the document say of s: its pieces are taken one by one, with the rows that are open on a pile.
func sayOf(s string) said {
	if s == "" {
		return said{text: "e"}
	}
	rows := []open{{}}
	groups, ended := 0, map[string]bool{}
	l := pieces(s)
	for i, p := range l {
		row := &rows[len(rows)-1]
		isLast := i == len(l)-1 || l[i+1].s == `\)`
		put := func(told string) {
			row.parts = append(row.parts, told)
			row.hasTimes = false
		}
		switch {
		case p.s == "^" && len(row.parts) == 0:
			put("^")
		case p.s == "$" && isLast:
			put("$")
		case p.s == "*" && row.isFirst(), p.s == "^", p.s == "$", len(p.s) == 1 && !strings.Contains(`.[\*`, p.s):
			put(hex(set.Of(p.s)))
		case p.s == ".":
			put(dot())
		case p.s[0] == '[' && len(p.s) > 1:
			list, _, _ := Bracket(p.s)
			put(hex(list))
		case p.s[0] == '[':
			return said{"", p.place, api.ErrSet}
		case p.s == "*" || strings.HasPrefix(p.s, `\{`):
			if row.hasTimes || row.isFirst() || p.s == `\{` {
				return said{"", p.place, api.ErrCount}
			}
			row.parts[len(row.parts)-1] = "*" + countOf(p.s) + ";" + row.parts[len(row.parts)-1]
			row.hasTimes = true
		case p.s == `\(`:
			if groups++; groups > 9 {
				return said{"", p.place, api.ErrParen}
			}
			rows = append(rows, open{place: p.place, number: groups})
		case p.s == `\)` && len(rows) == 1:
			return said{"", p.place, api.ErrParen}
		case p.s == `\)` && len(row.parts) == 0:
			return said{"", row.place, api.ErrParen}
		case p.s == `\)`:
			ended[`\`+strconv.Itoa(row.number)] = true
			told := "(" + row.whole() + ")"
			rows = rows[:len(rows)-1]
			row = &rows[len(rows)-1]
			put(told)
		case p.s == `\n`:
			put("[0a]")
		case p.s >= `\1` && p.s < `\:`:
			if !ended[p.s] {
				return said{"", p.place, api.ErrRef}
			}
			put(p.s)
		case len(p.s) == 2 && strings.Contains(`.[\*^$/`, p.s[1:]):
			put(hex(set.Of(p.s[1:])))
		default:
			return said{"", p.place, api.ErrRx}
		}
	}
	if len(rows) > 1 {
		return said{"", rows[len(rows)-1].place, api.ErrParen}
	}
	return said{text: rows[0].whole()}
}

// countOf is a number of times as rx tells it.
func countOf(s string) string {
	if s == "*" {
		return "0,-1"
	}
	m, n, isTwo := strings.Cut(s[2:len(s)-2], ",")
	switch {
	case !isTwo:
		n = m
	case n == "":
		n = "-1"
	}
	least, _ := strconv.Atoi(m)
	end, _ := strconv.Atoi(n)
	return fmt.Sprintf("%d,%d", least, end)
}

// sayOfParse is what Parse says.
func sayOfParse(s string) said {
	l, place, e := Parse(s)
	return said{rx.Text(l), place, e}
}

func TestP4_3ParseOfAllShortOnes(t *testing.T) {
	seen := map[api.Errno]int{}
	try := func(s string) {
		want := sayOf(s)
		seen[want.e]++
		if got := sayOfParse(s); got != want {
			t.Fatalf("%q %v, not %v", s, got, want)
		}
	}
	for n := range 6 {
		texts([]string{"a", "*", "^", "$", `\(`, `\)`, `\1`, `\{2\}`, `\`}, n, try)
		texts([]string{"a", "*", "[", "]", "^", `\`, "{", "}", "("}, n, try)
	}
	for n := range 8 {
		texts([]string{"a", "^", "$", `\(`, `\)`}, n, try)
		texts([]string{"0", "2", ",", `\}`}, n, func(s string) { try(`a\{` + s) })
	}
	for _, e := range []api.Errno{api.OK, api.ErrRx, api.ErrParen, api.ErrSet, api.ErrCount, api.ErrRef} {
		if seen[e] < 100 {
			t.Error(e, seen[e])
		}
	}
}

func TestP4_3ParseOfNearOnes(t *testing.T) {
	for _, x := range rightOnes() {
		for i := range len(x.s) + 1 {
			for _, p := range []string{"", "a", "*", "^", "$", ".", "[", "]", `\`, `\(`, `\)`, `\{`, `\}`, "0", "1", ",", "\n"} {
				near := []string{x.s[:i] + p + x.s[i:]}
				if i < len(x.s) {
					near = append(near, x.s[:i]+p+x.s[i+1:])
				}
				for _, s := range near {
					if got, want := sayOfParse(s), sayOf(s); got != want {
						t.Errorf("%q %v, not %v", s, got, want)
					}
				}
			}
		}
	}
}

// Nothing of a text or of an answer is kept.
func TestP4_3ParseIsNew(t *testing.T) {
	for _, x := range rightOnes() {
		one, _, _ := Parse(x.s)
		clear(one)
		if two, _, _ := Parse(x.s); rx.Text(two) != x.want {
			t.Errorf("%q %q", x.s, rx.Text(two))
		}
	}
}

// of is the pattern whose rx text is s.
func of(t *testing.T, s string) []rx.Node {
	l, e := rx.Parse(s)
	if e != api.OK {
		t.Fatalf("%q is none", s)
	}
	return l
}

func TestP4_4Print(t *testing.T) {
	for _, x := range []right{
		{"", "e"}, {"a", "[61]"}, {"^", "^"}, {"$", "$"}, {"^$", "&^$"}, {"a*b", "&*0,-1;[61][62]"}, {"^ab*$", "&^&[61]&*0,-1;[62]$"},
		{`\n`, "[0a]"}, {`\.`, "[2e]"}, {`\*`, "[2a]"}, {`\^`, "[5e]"}, {`\$`, "[24]"}, {`\\`, "[5c]"}, {`\[`, "[5b]"},
		{"]", "[5d]"}, {"/", "[2f]"}, {"{", "[7b]"}, {"}", "[7d]"}, {"(", "[28]"}, {"|", "[7c]"}, {"+", "[2b]"}, {"-", "[2d]"}, {"\x00", "[00]"}, {"\xff", "[ff]"},
		{".", dot()}, {"[ab]", "[6162]"}, {"[a-c]", "[616263]"}, {"[-^]", "[2d5e]"}, {`[n\]`, "[5c6e]"}, {`[]\n[\^-]`, "[0a2d5b5c5d5e]"},
		{`a\*`, "&[61][2a]"}, {`\**`, "*0,-1;[2a]"}, {`\n*`, "*0,-1;[0a]"}, {`^\*`, "&^[2a]"}, {`^\^`, "&^[5e]"}, {`\$$`, "&[24]$"}, {`a\^`, "&[61][5e]"},
		{"a*", "*0,-1;[61]"}, {`a\{1\}`, "*1,1;[61]"}, {`a\{255\}`, "*255,255;[61]"}, {`a\{1,\}`, "*1,-1;[61]"}, {`a\{255,\}`, "*255,-1;[61]"}, {`a\{0,1\}`, "*0,1;[61]"}, {`a\{2,10\}`, "*2,10;[61]"}, {`a\{0,255\}`, "*0,255;[61]"}, {`.\{3\}`, "*3,3;" + dot()},
		{`\(a\)`, "([61])"}, {`\(a\)*`, "*0,-1;([61])"}, {`\(\(a\)b\)`, "(&([61])[62])"}, {`\(^\)`, "(^)"}, {`\($\)`, "($)"}, {`x\(^a$\)y`, "&[78]&(&^&[61]$)[79]"}, {`\(^\)*`, "*0,-1;(^)"},
		{`\(a\)\1`, `&([61])\1`}, {`\(a\)\1*`, `&([61])*0,-1;\1`}, {`\(a\)\11`, `&([61])&\1[31]`}, {`\(\(a\)\2\)\1\{2,3\}`, `&(&([61])\2)*2,3;\1`},
	} {
		if got, e := Print(of(t, x.want)); got != x.s || e != api.OK {
			t.Errorf("%q %q, not %q: %d", x.want, got, x.s, e)
		}
	}
}

func TestP4_4PrintOfNone(t *testing.T) {
	a := rx.Node{Kind: rx.Bytes, Set: set.Of("a")}
	for _, l := range [][]rx.Node{
		nil, {}, {a, a}, {{Kind: 9}}, {{Kind: -1}}, {{Kind: rx.Bytes}}, {{Kind: rx.Ref, N: 1}}, {{Kind: rx.Begin, N: 1}}, {a, {Kind: rx.Group, N: 2}}, {a, {Kind: rx.Times, Max: 256}}, {a, {Kind: rx.Times, Min: 2, Max: 1}},
		{a, {Kind: rx.Times}}, {{Kind: rx.Cat}}, {a, {Kind: rx.Cat, A: 0, B: 0}}, {a, {Kind: rx.Cat, A: 7, B: -7}}, {{Kind: rx.Times, A: 0, Max: -1}}, {{}, a, {Kind: rx.Cat, A: 0, B: 1}},
		{a, a, {Kind: rx.Cat, A: 0, B: 1}, a, {Kind: rx.Cat, A: 2, B: 3}}, slices.Repeat([]rx.Node{a}, 121),
	} {
		if s, e := Print(l); s != "" || e != api.ErrArg {
			t.Errorf("%v %q %d", l, s, e)
		}
	}
}

func TestP4_4PrintOfOthers(t *testing.T) {
	for _, s := range []string{
		"|[61][62]", "(|[61][62])", "*0,-1;(|[61][62])", "|^$", "&[61](|[61][62])", "|[61]|[62][63]", "|&[61][62][63]",
		"&[61]^", "&$^", "&^^", "&^&^[61]", "(&[61]^)", "&[61]&^[62]", "&(^)^",
		"&$[61]", "&$$", "&[61]&$[62]", "(&$[61])", "&$(^)", "&^&$$",
	} {
		if got, e := Print(of(t, s)); got != "" || e != api.ErrArg {
			t.Errorf("%q %q %d", s, got, e)
		}
	}
}

// trees tells the rx texts of n nodes, whether of a pattern or not.
func trees(n int, tell func(s string)) {
	if n == 1 {
		for _, s := range []string{"[61]", "[2a]", "^", "$", `\1`} {
			tell(s)
		}
		return
	}
	trees(n-1, func(s string) {
		tell("(" + s + ")")
		tell("*0,-1;" + s)
		tell("*2,3;" + s)
	})
	for i := 1; i < n-1; i++ {
		trees(i, func(a string) {
			trees(n-1-i, func(b string) {
				tell("&" + a + b)
				tell("|" + a + b)
			})
		})
	}
}

// isBasic tells whether l has no Alt, and in each row Begin just at its beginning, End just at its end.
func isBasic(l []rx.Node) bool {
	var isRow func(i int) bool
	isRow = func(i int) bool {
		for isFirst := true; ; isFirst = false {
			x, isLast := l[i], true
			if x.Kind == rx.Cat {
				x, i, isLast = l[x.A], x.B, false
			}
			if x.Kind == rx.Times {
				x = l[x.A]
			}
			switch {
			case x.Kind == rx.Alt, x.Kind == rx.Begin && !isFirst, x.Kind == rx.End && !isLast:
				return false
			case x.Kind == rx.Group && !isRow(x.A):
				return false
			case isLast:
				return true
			}
		}
	}
	return isRow(len(l) - 1)
}

func TestP4_4PrintOfAllSmallOnes(t *testing.T) {
	basic, others := 0, 0
	for n := 1; n <= 6; n++ {
		trees(n, func(text string) {
			l, e := rx.Parse(text)
			if e != api.OK {
				return
			}
			was := slices.Clone(l)
			s, e := Print(l)
			if !slices.Equal(l, was) {
				t.Errorf("%q was changed", text)
			}
			if !isBasic(l) {
				others++
				if s != "" || e != api.ErrArg {
					t.Errorf("%q %q %d", text, s, e)
				}
				return
			}
			basic++
			if got := sayOfParse(s); e != api.OK || got != (said{text, 0, api.OK}) || got != sayOf(s) {
				t.Errorf("%q %q %d %v", text, s, e, got)
			}
		})
	}
	if basic < 1000 || others < 1000 {
		t.Error(basic, others)
	}
}

// again tells whether what s is parsed to is printed, and parsed again, to the same, and that text is printed as it is.
func again(s string) bool {
	l, _, e := Parse(s)
	if e != api.OK {
		return true
	}
	told, e := Print(l)
	if e != api.OK {
		return false
	}
	same, place, e := Parse(told)
	if !slices.Equal(same, l) || place != 0 || e != api.OK {
		return false
	}
	twice, e := Print(same)
	return twice == told && e == api.OK
}

func TestP4_5Again(t *testing.T) {
	try := func(s string) {
		if !again(s) {
			t.Errorf("%q", s)
		}
	}
	for _, x := range rightOnes() {
		try(x.s)
	}
	for _, x := range rightLists() {
		try(x.s)
		try("^" + x.s + "*$")
	}
	for n := range 6 {
		texts([]string{"a", "*", "^", "$", `\(`, `\)`, `\1`, `\{2\}`, `\n`}, n, try)
		texts([]string{"a", "[", "]", "^", "-", `\`, "n", "."}, n, try)
	}
	for _, s := range []string{strings.Repeat("a", 60), strings.Repeat(".", 60), strings.Repeat("[^a]", 60), strings.Repeat("a*", 40), strings.Repeat(`\(`, 9) + "a" + strings.Repeat(`\)`, 9)} {
		try(s)
	}
}

func TestP4_5AgainOfSets(t *testing.T) {
	try := func(s set.Set) {
		told := Show(s)
		if l, place, e := Parse(told); !slices.Equal(l, []rx.Node{{Kind: rx.Bytes, Set: s}}) || place != 0 || e != api.OK {
			t.Errorf("%q %q %d %d", told, rx.Text(l), place, e)
		}
		if got, e := Print([]rx.Node{{Kind: rx.Bytes, Set: s}}); got != told || e != api.OK {
			t.Errorf("%q %q %d", told, got, e)
		}
	}
	for a := range 256 {
		for b := a; b < 256; b++ {
			s := set.Range(byte(a), byte(b))
			try(s)
			try(set.Or(set.Range(byte(a), byte(a)), set.Range(byte(b), byte(b))))
			if n := set.Not(s); n != (set.Set{}) {
				try(n)
			}
		}
	}
	subsets("]\\[^-\n.*$", func(s set.Set) {
		if s != (set.Set{}) {
			try(s)
		}
		try(set.Not(s))
	})
}
