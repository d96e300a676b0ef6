package ere

import (
	"fmt"
	"regexp"
	"slices"
	"strconv"
	"strings"
	"testing"

	"calender/api"
	"calender/bre"
	"calender/rx"
	"calender/set"
)

// hex is the rx text of the bytes of s.
func hex(s set.Set) string {
	var told strings.Builder
	told.WriteString("[")
	for _, b := range []byte(set.Bytes(s)) {
		fmt.Fprintf(&told, "%02x", b)
	}
	return told.String() + "]"
}

// all is the set of all bytes.
func all() set.Set { return set.Range(0, 255) }

// dot is the rx text of all bytes.
func dot() string { return hex(all()) }

// subsets tells all sets of the bytes of s.
func subsets(s string, tell func(l set.Set)) {
	for bits := range 1 << len(s) {
		var l []byte
		for i := range len(s) {
			if bits>>i&1 == 1 {
				l = append(l, s[i])
			}
		}
		tell(set.Of(string(l)))
	}
}

// texts tells all texts of n of the pieces.
func texts(pieces []string, n int, tell func(s string)) {
	if n == 0 {
		tell("")
		return
	}
	texts(pieces, n-1, func(s string) {
		for _, p := range pieces {
			tell(s + p)
		}
	})
}

func TestP5_1ShowOfOneByte(t *testing.T) {
	for i := range 256 {
		b := string([]byte{byte(i)})
		want := b
		switch {
		case b == "\n":
			want = `\n`
		case slices.Contains([]string{".", "[", `\`, "(", ")", "*", "+", "?", "{", "}", "|", "^", "$"}, b):
			want = `\` + b
		}
		if got := Show(set.Of(b)); got != want {
			t.Errorf("%q %q, not %q", b, got, want)
		}
	}
}

func TestP5_1Show(t *testing.T) {
	for _, x := range []struct {
		s    set.Set
		want string
	}{
		{set.Set{}, ""}, {all(), "."}, {set.Of("ab"), "[ab]"}, {set.Of("abc"), "[a-c]"}, {set.Of("abd"), "[abd]"},
		{set.Of("^-"), "[-^]"}, {set.Of("^a"), "[a^]"}, {set.Of("]-"), "[]-]"}, {set.Of("()"), "[()]"}, {set.Of("()*+"), "[(-+]"},
		{set.Of("{|}"), "[{-}]"}, {set.Of("{}"), "[{}]"}, {set.Of("+?"), "[+?]"}, {set.Of("$."), "[$.]"},
		{set.Of("]\\[^-\n"), `[]\n[\^-]`}, {set.Of("a\n"), `[a\n]`}, {set.Of(`\n`), `[n\]`}, {set.Not(set.Of("\xff")), "[]\x00-\t\v-,.-Z_-\xfe\\n[\\^-]"},
	} {
		if got := Show(x.s); got != x.want {
			t.Errorf("%q %q, not %q", set.Bytes(x.s), got, x.want)
		}
	}
}

// Of none, and of two bytes or more, as in basic patterns.
func TestP5_1ShowAsInBasicPatterns(t *testing.T) {
	for _, bytes := range []string{".[\\()*+?{}|^$", "]\\[^-\nabcd", "*+,-./01"} {
		subsets(bytes, func(s set.Set) {
			for _, x := range []set.Set{s, set.Not(s)} {
				if set.Size(x) != 1 && Show(x) != bre.Show(x) {
					t.Errorf("%q %q", set.Bytes(x), Show(x))
				}
			}
		})
	}
}

// right is a text and the rx text of its pattern.
type right struct{ s, want string }

func rightOnes() []right {
	return []right{
		{"", "e"}, {"a", "[61]"}, {"ab", "&[61][62]"}, {"abc", "&[61]&[62][63]"}, {"a|b+", "|[61]*1,-1;[62]"},
		{" ", "[20]"}, {"\x00\xff", "&[00][ff]"}, {"\n", "[0a]"}, {"\xc3\xa4", "&[c3][a4]"},
		{"]", "[5d]"}, {"}", "[7d]"}, {"-", "[2d]"}, {"/", "[2f]"}, {"&", "[26]"}, {",", "[2c]"}, {"1", "[31]"}, {"a}", "&[61][7d]"}, {"a]", "&[61][5d]"}, {"}*", "*0,-1;[7d]"}, {"]+", "*1,-1;[5d]"}, {"}}", "&[7d][7d]"},
		{".", dot()}, {".*", "*0,-1;" + dot()}, {"a.b", "&[61]&" + dot() + "[62]"},
		{"a|b", "|[61][62]"}, {"a|b|c", "|[61]|[62][63]"}, {"ab|cd", "|&[61][62]&[63][64]"}, {"a|bc|d|e", "|[61]|&[62][63]|[64][65]"}, {"a|bcd", "|[61]&[62]&[63][64]"},
		{"^", "^"}, {"$", "$"}, {"^$", "&^$"}, {"$^", "&$^"}, {"^^", "&^^"}, {"$$", "&$$"}, {"a^b", "&[61]&^[62]"}, {"a$b", "&[61]&$[62]"}, {"^a$", "&^&[61]$"}, {"^|$", "|^$"}, {"a|^", "|[61]^"}, {"(^)", "(^)"}, {"($)", "($)"}, {"(^a$)b", "&(&^&[61]$)[62]"}, {"a^", "&[61]^"}, {"$a", "&$[61]"}, {"^^^", "&^&^^"},
		{"(^)*", "*0,-1;(^)"}, {"($){2}", "*2,2;($)"}, {"^(a)", "&^([61])"}, {"$|a*", "|$*0,-1;[61]"}, {"^a*", "&^*0,-1;[61]"}, {"a*^", "&*0,-1;[61]^"}, {"a+$", "&*1,-1;[61]$"},
		{"a*", "*0,-1;[61]"}, {"a+", "*1,-1;[61]"}, {"a?", "*0,1;[61]"}, {"a*b+c?", "&*0,-1;[61]&*1,-1;[62]*0,1;[63]"}, {"ab*", "&[61]*0,-1;[62]"}, {"[ab]+", "*1,-1;[6162]"}, {"(a)?", "*0,1;([61])"}, {"(a|b)*c", "&*0,-1;(|[61][62])[63]"},
		{"a{1}", "*1,1;[61]"}, {"a{3}", "*3,3;[61]"}, {"a{255}", "*255,255;[61]"}, {"a{0,}", "*0,-1;[61]"}, {"a{1,}", "*1,-1;[61]"}, {"a{255,}", "*255,-1;[61]"}, {"a{0,1}", "*0,1;[61]"}, {"a{2,5}", "*2,5;[61]"}, {"a{2,2}", "*2,2;[61]"}, {"a{0,255}", "*0,255;[61]"}, {"a{255,255}", "*255,255;[61]"},
		{"a{001}", "*1,1;[61]"}, {"a{000,}", "*0,-1;[61]"}, {"a{00,001}", "*0,1;[61]"}, {"a{09,010}", "*9,10;[61]"}, {"a{2}b", "&*2,2;[61][62]"}, {"a{2}(b)", "&*2,2;[61]([62])"}, {".{2,3}$", "&*2,3;" + dot() + "$"}, {`\n{2}`, "*2,2;[0a]"}, {"a{2}}", "&*2,2;[61][7d]"}, {"a{2}|b{3,}", "|*2,2;[61]*3,-1;[62]"}, {"}{2}", "*2,2;[7d]"}, {`\{{2}`, "*2,2;[7b]"},
		{"(a)", "([61])"}, {"(ab)", "(&[61][62])"}, {"(a)(b)", "&([61])([62])"}, {"((a))", "(([61]))"}, {"(a|b)", "(|[61][62])"}, {"(a|b|c)d|e", "|&(|[61]|[62][63])[64][65]"}, {"(a(b)c)d", "&(&[61]&([62])[63])[64]"}, {"((a)|(b))(c)", "&(|([61])([62]))([63])"}, {"(a*)*", "*0,-1;(*0,-1;[61])"}, {"(a){2,3}", "*2,3;([61])"}, {"(a)|(b)", "|([61])([62])"}, {"a(b)*c", "&[61]&*0,-1;([62])[63]"}, {"(a)b", "&([61])[62]"}, {"((a|b)c|d)", "(|&(|[61][62])[63][64])"},
		{`\n`, "[0a]"}, {`\n*`, "*0,-1;[0a]"}, {`\.`, "[2e]"}, {`\[`, "[5b]"}, {`\\`, "[5c]"}, {`\(`, "[28]"}, {`\)`, "[29]"}, {`\*`, "[2a]"}, {`\+`, "[2b]"}, {`\?`, "[3f]"}, {`\{`, "[7b]"}, {`\}`, "[7d]"}, {`\|`, "[7c]"}, {`\^`, "[5e]"}, {`\$`, "[24]"}, {`\/`, "[2f]"},
		{`\**`, "*0,-1;[2a]"}, {`a\*`, "&[61][2a]"}, {`\(a\)`, "&[28]&[61][29]"}, {`(\))`, "([29])"}, {`(\()`, "([28])"}, {`a\|b`, "&[61]&[7c][62]"}, {`\\n`, "&[5c][6e]"}, {`\\(a)`, "&[5c]([61])"}, {`\^*`, "*0,-1;[5e]"}, {`\$+`, "*1,-1;[24]"}, {`a\{2}`, "&[61]&[7b]&[32][7d]"}, {`\[a]`, "&[5b]&[61][5d]"}, {`\?+`, "*1,-1;[3f]"},
		{"[a]", "[61]"}, {"[a-c]x", "&[616263][78]"}, {"[]a]", "[5d61]"}, {"x[^\x01-\xff]", "&[78][00]"}, {"[*]", "[2a]"}, {"[a]]", "&[61][5d]"}, {`[\n]`, "[0a]"}, {`[\]]`, "&[5c][5d]"}, {"[(]a", "&[28][61]"}, {"([)])", "([29])"}, {"[|]|a", "|[7c][61]"}, {"[^]]", hex(set.Not(set.Of("]")))}, {"[[:digit:]]{2}", "*2,2;[30313233343536373839]"}, {"^[ab]$", "&^&[6162]$"}, {"[{]{2}", "*2,2;[7b]"}, {"[$]$", "&[24]$"}, {"[^^]?", "*0,1;" + hex(set.Not(set.Of("^")))}, {"[[.].]]b", "&[5d][62]"}, {"[a-c-]*", "*0,-1;[2d616263]"}, {"[[=a=]b]", "[6162]"},
	}
}

// wrongOne is a text that is no pattern, and what is said of it.
type wrongOne struct {
	s     string
	place int
	e     api.Errno
}

func wrongOnes() []wrongOne {
	return []wrongOne{
		// Lists.
		{"[", 0, api.ErrSet}, {"a[", 1, api.ErrSet}, {"a[]", 1, api.ErrSet}, {"[^", 0, api.ErrSet}, {"ab[b-a]c", 2, api.ErrSet}, {"a*[[:foo:]]", 2, api.ErrSet}, {"([a)", 1, api.ErrSet}, {"[^\x00-\xff]", 0, api.ErrSet}, {"[a][", 3, api.ErrSet}, {"^[", 1, api.ErrSet}, {"a|[", 2, api.ErrSet}, {`\\[`, 2, api.ErrSet}, {"[a-c-e]", 0, api.ErrSet},
		// Rows of nothing.
		{"|", 0, api.ErrRx}, {"|a", 0, api.ErrRx}, {"a|", 2, api.ErrRx}, {"a||b", 2, api.ErrRx}, {"()", 1, api.ErrRx}, {"(|a)", 1, api.ErrRx}, {"(a|)", 3, api.ErrRx}, {"(a||b)", 3, api.ErrRx}, {"a()", 2, api.ErrRx}, {"(", 1, api.ErrRx}, {"a(", 2, api.ErrRx}, {"(a|", 3, api.ErrRx}, {"((", 2, api.ErrRx}, {"(()", 2, api.ErrRx}, {"(a)|", 4, api.ErrRx}, {"||", 0, api.ErrRx}, {"()*", 1, api.ErrRx}, {"(a)()", 4, api.ErrRx}, {"a|b|", 4, api.ErrRx}, {"(a(b|))", 5, api.ErrRx}, {"^|", 2, api.ErrRx}, {"(|", 1, api.ErrRx}, {"a*|", 3, api.ErrRx},
		// Groups.
		{"(a", 0, api.ErrParen}, {"a(b", 1, api.ErrParen}, {"(a(b)", 0, api.ErrParen}, {"(a)(b", 3, api.ErrParen}, {"(^", 0, api.ErrParen}, {"($", 0, api.ErrParen}, {`(a\)`, 0, api.ErrParen}, {"([)]", 0, api.ErrParen}, {"(a*", 0, api.ErrParen}, {"(a|b", 0, api.ErrParen}, {"x|(a", 2, api.ErrParen}, {"((a)|b", 0, api.ErrParen},
		{"((a", 1, api.ErrParen}, {"a(b(c(d)", 3, api.ErrParen}, {"(a|(b", 3, api.ErrParen},
		{")", 0, api.ErrParen}, {"a)", 1, api.ErrParen}, {"^)", 1, api.ErrParen}, {"(a))", 3, api.ErrParen}, {"a*)", 2, api.ErrParen}, {"a|)", 2, api.ErrParen}, {"a|b)", 3, api.ErrParen}, {")(", 0, api.ErrParen}, {"(a)|)", 4, api.ErrParen}, {"))", 0, api.ErrParen}, {"$)", 1, api.ErrParen}, {")*", 0, api.ErrParen},
		// Numbers of times that are none.
		{"a{", 1, api.ErrCount}, {"a{1", 1, api.ErrCount}, {"a{1,", 1, api.ErrCount}, {"a{1,2", 1, api.ErrCount}, {`a{1\}`, 1, api.ErrCount}, {`a{1,2\}`, 1, api.ErrCount}, {"a{}", 1, api.ErrCount}, {"a{,}", 1, api.ErrCount}, {"a{,2}", 1, api.ErrCount}, {"a{x}", 1, api.ErrCount}, {"a{1,x}", 1, api.ErrCount}, {"a{1x}", 1, api.ErrCount}, {"a{ 1}", 1, api.ErrCount}, {"a{1 }", 1, api.ErrCount}, {"a{1, 2}", 1, api.ErrCount}, {"a{-1}", 1, api.ErrCount}, {"a{+1}", 1, api.ErrCount}, {"a{1,-1}", 1, api.ErrCount}, {"a{1,2,3}", 1, api.ErrCount}, {"a{1,,2}", 1, api.ErrCount}, {"a{1_0}", 1, api.ErrCount}, {"a{{2}}", 1, api.ErrCount}, {`a{\}`, 1, api.ErrCount}, {`a{2\}b\{3}`, 1, api.ErrCount}, {`a{2\}b}`, 1, api.ErrCount}, {"a{*}", 1, api.ErrCount},
		{"a{0}", 1, api.ErrCount}, {"a{0,0}", 1, api.ErrCount}, {"a{000}", 1, api.ErrCount}, {"a{256}", 1, api.ErrCount}, {"a{256,}", 1, api.ErrCount}, {"a{1,256}", 1, api.ErrCount}, {"a{256,256}", 1, api.ErrCount}, {"a{999}", 1, api.ErrCount}, {"a{0001}", 1, api.ErrCount}, {"a{0,0001}", 1, api.ErrCount}, {"a{1000}", 1, api.ErrCount}, {"a{1,0255}", 1, api.ErrCount}, {"a{2,1}", 1, api.ErrCount}, {"a{255,254}", 1, api.ErrCount}, {"a{1,0}", 1, api.ErrCount}, {"a{99999999999999999999}", 1, api.ErrCount}, {"ab(c){2,1}", 5, api.ErrCount}, {"(a{0})", 2, api.ErrCount}, {"a|b{0}", 3, api.ErrCount},
		// One behind another one, behind a ^ or a $, or where an item would begin.
		{"a**", 2, api.ErrCount}, {"a*+", 2, api.ErrCount}, {"a+?", 2, api.ErrCount}, {"a??", 2, api.ErrCount}, {"a?{2}", 2, api.ErrCount}, {"a{2}*", 4, api.ErrCount}, {"a{2}{3}", 4, api.ErrCount}, {"a*{x", 2, api.ErrCount}, {"(a)**", 4, api.ErrCount}, {"(a**)", 3, api.ErrCount}, {"[a]*+", 4, api.ErrCount}, {"a{2,1}*", 1, api.ErrCount}, {"a{2}{", 4, api.ErrCount}, {"ab+++", 3, api.ErrCount},
		{"^*", 1, api.ErrCount}, {"^+", 1, api.ErrCount}, {"^?", 1, api.ErrCount}, {"^{2}", 1, api.ErrCount}, {"$*", 1, api.ErrCount}, {"$+", 1, api.ErrCount}, {"$?", 1, api.ErrCount}, {"${2}", 1, api.ErrCount}, {"a^*", 2, api.ErrCount}, {"a$*b", 2, api.ErrCount}, {"(^*)", 2, api.ErrCount}, {"a*^*", 3, api.ErrCount}, {"^{", 1, api.ErrCount}, {"a|$?", 3, api.ErrCount},
		{"*", 0, api.ErrCount}, {"+", 0, api.ErrCount}, {"?", 0, api.ErrCount}, {"{", 0, api.ErrCount}, {"{2}", 0, api.ErrCount}, {"*a", 0, api.ErrCount}, {"a|*", 2, api.ErrCount}, {"a|+b", 2, api.ErrCount}, {"a|{2}", 2, api.ErrCount}, {"(*a)", 1, api.ErrCount}, {"(?)", 1, api.ErrCount}, {"({2}a)", 1, api.ErrCount}, {"(a|*b)", 3, api.ErrCount}, {"(*", 1, api.ErrCount}, {"a(+", 2, api.ErrCount}, {"**", 0, api.ErrCount}, {"a|?", 2, api.ErrCount}, {"({", 1, api.ErrCount},
		// What stands behind a \.
		{`\1`, 0, api.ErrRef}, {`a\1`, 1, api.ErrRef}, {`(a)\1`, 3, api.ErrRef}, {`(a\1)`, 2, api.ErrRef}, {`(a)\9`, 3, api.ErrRef}, {`\9`, 0, api.ErrRef}, {`a|\2`, 2, api.ErrRef}, {`(a)*\1*`, 4, api.ErrRef},
		{`\`, 0, api.ErrRx}, {`a\`, 1, api.ErrRx}, {`a*\`, 2, api.ErrRx}, {`\0`, 0, api.ErrRx}, {`\a`, 0, api.ErrRx}, {`\]`, 0, api.ErrRx}, {`\-`, 0, api.ErrRx}, {`\t`, 0, api.ErrRx}, {`\N`, 0, api.ErrRx}, {"\\\n", 0, api.ErrRx}, {"\\\x00", 0, api.ErrRx}, {"\\\xff", 0, api.ErrRx}, {`\ `, 0, api.ErrRx}, {`\&`, 0, api.ErrRx}, {`\w`, 0, api.ErrRx}, {`\\\`, 2, api.ErrRx}, {`(a)\0`, 3, api.ErrRx}, {`\,`, 0, api.ErrRx}, {`^\`, 1, api.ErrRx}, {`a|\`, 2, api.ErrRx}, {`(\`, 1, api.ErrRx}, {`\<`, 0, api.ErrRx},
		// Of many that are wrong, the one that is met first.
		{`(a\9`, 2, api.ErrRef}, {"(a[", 2, api.ErrSet}, {"(a**", 3, api.ErrCount}, {`(a\q`, 2, api.ErrRx}, {`()\9`, 1, api.ErrRx}, {"()[", 1, api.ErrRx}, {"a)[", 1, api.ErrParen}, {"[)", 0, api.ErrSet}, {`\9(`, 0, api.ErrRef}, {"a**[", 2, api.ErrCount}, {`\q**`, 0, api.ErrRx}, {`((\q`, 2, api.ErrRx}, {"(a))()", 3, api.ErrParen}, {"({)", 1, api.ErrCount}, {"(a{1)", 2, api.ErrCount}, {"(a||", 3, api.ErrRx}, {"(|*", 1, api.ErrRx}, {"a|)*", 2, api.ErrParen}, {"(a|)(", 3, api.ErrRx}, {"*|", 0, api.ErrCount}, {`|\1`, 0, api.ErrRx}, {`\1|`, 0, api.ErrRef},
	}
}

func TestP5_2Parse(t *testing.T) {
	for _, x := range rightOnes() {
		l, place, e := Parse(x.s)
		if !rx.May(l) || rx.Text(l) != x.want || place != 0 || e != api.OK {
			t.Errorf("%q %q, not %q: %d %d", x.s, rx.Text(l), x.want, place, e)
		}
	}
}

func TestP5_2ParseOfWrongOnes(t *testing.T) {
	for _, x := range wrongOnes() {
		if l, place, e := Parse(x.s); len(l) != 0 || place != x.place || e != x.e {
			t.Errorf("%q %q %d %d", x.s, rx.Text(l), place, e)
		}
	}
}

// Each byte by itself, and behind a \.
func TestP5_2ParseOfEachByte(t *testing.T) {
	for i := range 256 {
		b := string([]byte{byte(i)})
		l, place, e := Parse("x" + b + "y")
		if want := "&[78]&" + hex(set.Of(b)) + "[79]"; !strings.Contains(`.[\()*+?{|^$`, b) && (rx.Text(l) != want || e != api.OK) {
			t.Errorf("%q %q %d %d", b, rx.Text(l), place, e)
		}
		l, place, e = Parse(`x\` + b)
		if b == "n" || strings.Contains(`.[\()*+?{}|^$/`, b) {
			if want := "&[78]" + hex(set.Of(strings.Replace(b, "n", "\n", 1))); rx.Text(l) != want || place != 0 || e != api.OK {
				t.Errorf("%q %q %d %d", b, rx.Text(l), place, e)
			}
			continue
		}
		want := api.ErrRx
		if b >= "1" && b <= "9" {
			want = api.ErrRef
		}
		if len(l) != 0 || place != 1 || e != want {
			t.Errorf("%q %q %d %d", b, rx.Text(l), place, e)
		}
	}
}

func TestP5_2Counts(t *testing.T) {
	for m := range 300 {
		for _, n := range []int{0, 1, m - 1, m, m + 1, 254, 255, 256, 300} {
			s := "a{" + strconv.Itoa(m) + "," + strconv.Itoa(n) + "}"
			l, place, e := Parse(s)
			if m <= 255 && n >= m && n > 0 && n <= 255 {
				if rx.Text(l) != fmt.Sprintf("*%d,%d;[61]", m, n) || place != 0 || e != api.OK {
					t.Error(s, rx.Text(l), place, e)
				}
			} else if len(l) != 0 || place != 1 || e != api.ErrCount {
				t.Error(s, rx.Text(l), place, e)
			}
		}
	}
}

func TestP5_2Groups(t *testing.T) {
	for n := 1; n <= 12; n++ {
		for _, x := range []struct {
			s, want string
			tenth   int
		}{
			{strings.Repeat("(a)", n), "", 27},
			{strings.Repeat("(", n) + "a" + strings.Repeat(")", n), strings.Repeat("(", n) + "[61]" + strings.Repeat(")", n), 9},
			{strings.Repeat("(a|", n) + "b" + strings.Repeat(")", n), strings.Repeat("(|[61]", n) + "[62]" + strings.Repeat(")", n), 27},
		} {
			l, place, e := Parse(x.s)
			if n > 9 {
				if len(l) != 0 || place != x.tenth || e != api.ErrParen {
					t.Error(x.s, rx.Text(l), place, e)
				}
			} else if rx.Groups(l) != n || x.want != "" && rx.Text(l) != x.want || e != api.OK {
				t.Error(x.s, rx.Text(l), place, e)
			}
		}
	}
	// As it begins: what would be wrong in the tenth one is not met any more, what is wrong ahead of it is.
	nine := strings.Repeat("(a)", 9)
	for _, x := range []wrongOne{
		{nine + "(", 27, api.ErrParen}, {nine + "()", 27, api.ErrParen}, {nine + "([", 27, api.ErrParen}, {nine + "(a)[", 27, api.ErrParen}, {nine + "[(a)", 27, api.ErrSet},
		{nine + ")", 27, api.ErrParen}, {nine + "|(a)", 28, api.ErrParen}, {strings.Repeat("(", 10), 9, api.ErrParen}, {strings.Repeat("(", 9), 9, api.ErrRx}, {strings.Repeat("(", 9) + "a", 8, api.ErrParen}, {strings.Repeat("(", 100000), 9, api.ErrParen},
	} {
		if l, place, e := Parse(x.s); len(l) != 0 || place != x.place || e != x.e {
			t.Errorf("%q %q %d %d", x.s[:min(len(x.s), 60)], rx.Text(l), place, e)
		}
	}
}

func TestP5_2Wide(t *testing.T) {
	a := strings.Repeat("a", 59)
	for _, x := range []struct {
		s     string
		nodes int
	}{
		{a, 117}, {a + "b", 119}, {a + "b*", 120}, {a + "b{2,3}", 120}, {"^" + a, 119}, {a + "(b)", 120}, {a + "|b", 119}, {a + "|b?", 120}, {strings.Repeat("a|", 59) + "b", 119}, {strings.Repeat("a|", 59) + "b*", 120}, {strings.Repeat("a*", 40), 119},
		{a + "bc", 121}, {a + "|bc", 121}, {a + "b*c", 122}, {a + "(b*)", 121}, {a + "b$", 121}, {strings.Repeat("a|", 60) + "b", 121}, {strings.Repeat("a", 600), 1199}, {strings.Repeat("a|", 300) + "a", 601}, {strings.Repeat("[a]", 61), 121}, {strings.Repeat("a*", 41), 122},
	} {
		l, place, e := Parse(x.s)
		if x.nodes > api.MaxNodes {
			if len(l) != 0 || place != 0 || e != api.ErrWide {
				t.Error(x.s, len(l), place, e)
			}
		} else if len(l) != x.nodes || !rx.May(l) || place != 0 || e != api.OK {
			t.Error(x.s, len(l), place, e)
		}
	}
}

// Behind all others: whatever is wrong behind too many nodes is told, and ErrWide is not.
func TestP5_2WideIsLast(t *testing.T) {
	for _, n := range []int{61, 100, 600, 100000} {
		for _, a := range []string{strings.Repeat("a", n-1) + "|", strings.Repeat("^|", n/2)} {
			for _, x := range wrongOnes() {
				if l, place, e := Parse(a + x.s); len(l) != 0 || place != len(a)+x.place || e != x.e {
					t.Errorf("%d a, %q %d %d", n, x.s, place, e)
				}
			}
			if n >= 2*61 {
				if _, place, e := Parse(a + "b"); place != 0 || e != api.ErrWide {
					t.Error(n, place, e)
				}
			}
		}
	}
}

// said is what is said of a text: the rx text of its pattern, or what is wrong, and where.
type said struct {
	text  string
	place int
	e     api.Errno
}

// sayer reads a text by the words of the document, from its beginning to its end, row by row.
type sayer struct {
	s      string
	at     int
	groups int
}

// numbers is the form of a number of times that is told by numbers.
var numbers = regexp.MustCompile(`^\{([0-9]{1,3})(,([0-9]{1,3})?)?\}`)

// rows is the rx text of the rows here, of a group that is open or not.
func (y *sayer) rows(isOpen bool) string {
	row := y.row(isOpen)
	if !y.isNext("|") {
		return row
	}
	y.at++
	return "|" + row + y.rows(isOpen)
}

func (y *sayer) isNext(b string) bool { return strings.HasPrefix(y.s[y.at:], b) }

func (y *sayer) row(isOpen bool) string {
	if y.at == len(y.s) || y.isNext("|") || y.isNext(")") && isOpen {
		panic(said{"", y.at, api.ErrRx})
	}
	item := y.item()
	if y.at == len(y.s) || y.isNext("|") || y.isNext(")") && isOpen {
		return item
	}
	return "&" + item + y.row(isOpen)
}

func (y *sayer) item() string {
	isOfNone := y.isNext("^") || y.isNext("$")
	atom := y.atom()
	times, n := y.times()
	if n == 0 {
		return atom
	}
	if isOfNone || times == "" {
		panic(said{"", y.at, api.ErrCount})
	}
	y.at += n
	if _, n := y.times(); n > 0 {
		panic(said{"", y.at, api.ErrCount})
	}
	return times + atom
}

// times is a number of times as rx tells it, "" if it is wrong, and how many bytes it takes, 0 if there is none.
func (y *sayer) times() (string, int) {
	switch {
	case y.isNext("*"):
		return "*0,-1;", 1
	case y.isNext("+"):
		return "*1,-1;", 1
	case y.isNext("?"):
		return "*0,1;", 1
	case !y.isNext("{"):
		return "", 0
	}
	l := numbers.FindStringSubmatch(y.s[y.at:])
	if l == nil {
		return "", 1
	}
	m, _ := strconv.Atoi(l[1])
	n, _ := strconv.Atoi(l[3])
	switch l[2] {
	case "":
		n = m
	case ",":
		n = -1
	}
	if m > 255 || n > 255 || n != -1 && n < m || n == 0 {
		return "", 1
	}
	return fmt.Sprintf("*%d,%d;", m, n), len(l[0])
}

func (y *sayer) atom() string {
	place := y.at
	y.at++
	switch b := y.s[place]; b {
	case '^', '$':
		return string(rune(b))
	case '*', '+', '?', '{':
		panic(said{"", place, api.ErrCount})
	case ')':
		panic(said{"", place, api.ErrParen})
	case '.':
		return dot()
	case '[':
		s, n, e := bre.Bracket(y.s[place:])
		if e != api.OK {
			panic(said{"", place, e})
		}
		y.at = place + n
		return hex(s)
	case '(':
		if y.groups++; y.groups > 9 {
			panic(said{"", place, api.ErrParen})
		}
		told := "(" + y.rows(true) + ")"
		if y.at == len(y.s) {
			panic(said{"", place, api.ErrParen})
		}
		y.at++
		return told
	case '\\':
		y.at++
		return y.escape(place)
	default:
		return hex(set.Range(b, b))
	}
}

func (y *sayer) escape(place int) string {
	b := strings.TrimPrefix(y.s[place:min(place+2, len(y.s))], `\`)
	switch {
	case b == "n":
		return "[0a]"
	case b != "" && strings.Contains(`.[\()*+?{}|^$/`, b):
		return hex(set.Of(b))
	case b >= "1" && b < ":":
		panic(said{"", place, api.ErrRef})
	}
	panic(said{"", place, api.ErrRx})
}

// sayOf is what the words of the document say of s.
func sayOf(s string) (is said) {
	defer func() {
		if x, isSaid := recover().(said); isSaid {
			is = x
		}
	}()
	if s == "" {
		return said{text: "e"}
	}
	y := sayer{s: s}
	told := y.rows(false)
	return said{text: told}
}

// sayOfParse is what Parse says.
func sayOfParse(s string) said {
	l, place, e := Parse(s)
	return said{rx.Text(l), place, e}
}

func TestP5_2ParseOfAllShortOnes(t *testing.T) {
	seen := map[api.Errno]int{}
	try := func(s string) {
		want := sayOf(s)
		seen[want.e]++
		if got := sayOfParse(s); got != want {
			t.Fatalf("%q %v, not %v", s, got, want)
		}
	}
	for n := range 6 {
		texts([]string{"a", "*", "?", "^", "$", "(", ")", "|", "{2}", "{"}, n, try)
		texts([]string{"a", "+", "[", "]", "^", `\`, "1", "n", "(", "|"}, n, try)
	}
	for n := range 8 {
		texts([]string{"a", "|", "*", "(", ")"}, n, try)
		texts([]string{"0", "2", ",", "}", "{"}, n, func(s string) { try("a{" + s) })
	}
	for _, e := range []api.Errno{api.OK, api.ErrRx, api.ErrParen, api.ErrSet, api.ErrCount, api.ErrRef} {
		if seen[e] < 100 {
			t.Error(e, seen[e])
		}
	}
}

func TestP5_2ParseOfNearOnes(t *testing.T) {
	for _, x := range rightOnes() {
		for i := range len(x.s) + 1 {
			for _, p := range []string{"", "a", "*", "+", "?", "^", "$", ".", "[", "]", `\`, "(", ")", "|", "{", "}", "0", "1", ",", "\n"} {
				near := []string{x.s[:i] + p + x.s[i:]}
				if i < len(x.s) {
					near = append(near, x.s[:i]+p+x.s[i+1:])
				}
				for _, s := range near {
					if got, want := sayOfParse(s), sayOf(s); got != want {
						t.Errorf("%q %v, not %v", s, got, want)
					}
				}
			}
		}
	}
}

// Nothing of a text or of an answer is kept.
func TestP5_2ParseIsNew(t *testing.T) {
	for _, x := range rightOnes() {
		one, _, _ := Parse(x.s)
		clear(one)
		if two, _, _ := Parse(x.s); rx.Text(two) != x.want {
			t.Errorf("%q %q", x.s, rx.Text(two))
		}
	}
}

// of is the pattern whose rx text is s.
func of(t *testing.T, s string) []rx.Node {
	l, e := rx.Parse(s)
	if e != api.OK {
		t.Fatalf("%q is none", s)
	}
	return l
}

func TestP5_3Print(t *testing.T) {
	for _, x := range []right{
		{"", "e"}, {"a", "[61]"}, {"^", "^"}, {"$", "$"}, {"^$", "&^$"}, {"$^", "&$^"}, {"a*b", "&*0,-1;[61][62]"}, {"^ab+$", "&^&[61]&*1,-1;[62]$"}, {"a^b$c", "&[61]&^&[62]&$[63]"},
		{"a|b", "|[61][62]"}, {"a|b|c", "|[61]|[62][63]"}, {"ab|c", "|&[61][62][63]"}, {"a|bc", "|[61]&[62][63]"}, {"^|$", "|^$"}, {"(a|b)c", "&(|[61][62])[63]"}, {"(a|b)*|c", "|*0,-1;(|[61][62])[63]"},
		{`\n`, "[0a]"}, {`\.`, "[2e]"}, {`\*`, "[2a]"}, {`\+`, "[2b]"}, {`\?`, "[3f]"}, {`\^`, "[5e]"}, {`\$`, "[24]"}, {`\\`, "[5c]"}, {`\[`, "[5b]"}, {`\(`, "[28]"}, {`\)`, "[29]"}, {`\{`, "[7b]"}, {`\}`, "[7d]"}, {`\|`, "[7c]"},
		{"]", "[5d]"}, {"/", "[2f]"}, {"-", "[2d]"}, {"\x00", "[00]"}, {"\xff", "[ff]"}, {".", dot()}, {"[ab]", "[6162]"}, {"[a-c]", "[616263]"}, {"[-^]", "[2d5e]"}, {`[]\n[\^-]`, "[0a2d5b5c5d5e]"},
		{"a*", "*0,-1;[61]"}, {"a+", "*1,-1;[61]"}, {"a?", "*0,1;[61]"}, {"a{1}", "*1,1;[61]"}, {"a{2}", "*2,2;[61]"}, {"a{255}", "*255,255;[61]"}, {"a{2,}", "*2,-1;[61]"}, {"a{255,}", "*255,-1;[61]"}, {"a{0,2}", "*0,2;[61]"}, {"a{1,2}", "*1,2;[61]"}, {"a{2,10}", "*2,10;[61]"}, {"a{0,255}", "*0,255;[61]"}, {".{3}", "*3,3;" + dot()}, {`\**`, "*0,-1;[2a]"}, {`\+{2}`, "*2,2;[2b]"}, {`\{{3,4}`, "*3,4;[7b]"},
		{"(a)", "([61])"}, {"(a)*", "*0,-1;([61])"}, {"((a)b)", "(&([61])[62])"}, {"(^)", "(^)"}, {"($)?", "*0,1;($)"}, {"x(^a$)y", "&[78]&(&^&[61]$)[79]"}, {"(a|(b|c))", "(|[61](|[62][63]))"}, {"((((((((([(-+])))))))))", "(((((((((" + hex(set.Of("()*+")) + ")))))))))"},
	} {
		if got, e := Print(of(t, x.want)); got != x.s || e != api.OK {
			t.Errorf("%q %q, not %q: %d", x.want, got, x.s, e)
		}
	}
}

func TestP5_3PrintOfCounts(t *testing.T) {
	for m := range 256 {
		for _, n := range []int{-1, 1, m, m + 1, 255} {
			text := fmt.Sprintf("*%d,%d;[7d]", m, n)
			l, e := rx.Parse(text)
			if e != api.OK {
				continue
			}
			want := fmt.Sprintf(`\}{%d,%d}`, m, n)
			switch {
			case m == 0 && n == -1:
				want = `\}*`
			case m == 1 && n == -1:
				want = `\}+`
			case m == 0 && n == 1:
				want = `\}?`
			case m == n:
				want = fmt.Sprintf(`\}{%d}`, m)
			case n == -1:
				want = fmt.Sprintf(`\}{%d,}`, m)
			}
			if got, e := Print(l); got != want || e != api.OK {
				t.Errorf("%q %q, not %q: %d", text, got, want, e)
			}
		}
	}
}

func TestP5_3PrintOfNone(t *testing.T) {
	a := rx.Node{Kind: rx.Bytes, Set: set.Of("a")}
	for _, l := range [][]rx.Node{
		nil, {}, {a, a}, {{Kind: 9}}, {{Kind: -1}}, {{Kind: rx.Bytes}}, {{Kind: rx.Ref, N: 1}}, {{Kind: rx.Begin, N: 1}}, {a, {Kind: rx.Group, N: 2}}, {a, {Kind: rx.Times, Max: 256}}, {a, {Kind: rx.Times, Min: 2, Max: 1}},
		{a, {Kind: rx.Times}}, {{Kind: rx.Cat}}, {a, {Kind: rx.Cat, A: 0, B: 0}}, {a, {Kind: rx.Alt, A: 7, B: -7}}, {{Kind: rx.Times, A: 0, Max: -1}}, {{}, a, {Kind: rx.Alt, A: 0, B: 1}},
		{a, a, {Kind: rx.Alt, A: 0, B: 1}, a, {Kind: rx.Alt, A: 2, B: 3}}, {a, a, {Kind: rx.Alt, A: 0, B: 1}, a, {Kind: rx.Cat, A: 2, B: 3}}, slices.Repeat([]rx.Node{a}, 121),
	} {
		if s, e := Print(l); s != "" || e != api.ErrArg {
			t.Errorf("%v %q %d", l, s, e)
		}
	}
}

// A pattern with a Ref is that of no extended text.
func TestP5_3PrintOfRefs(t *testing.T) {
	for _, s := range []string{`&([61])\1`, `&([61])*0,-1;\1`, `|([61])\1`, `&([61])&[62]\1`, `(&([61])\2)`, `&([61])(\1)`} {
		if got, e := Print(of(t, s)); got != "" || e != api.ErrArg {
			t.Errorf("%q %q %d", s, got, e)
		}
	}
}

// trees tells the rx texts of n nodes, whether of a pattern or not.
func trees(n int, tell func(s string)) {
	if n == 1 {
		for _, s := range []string{"[61]", "[2a]", "^", "$", `\1`} {
			tell(s)
		}
		return
	}
	trees(n-1, func(s string) {
		tell("(" + s + ")")
		tell("*0,-1;" + s)
		tell("*2,3;" + s)
	})
	for i := 1; i < n-1; i++ {
		trees(i, func(a string) {
			trees(n-1-i, func(b string) {
				tell("&" + a + b)
				tell("|" + a + b)
			})
		})
	}
}

func TestP5_3PrintOfAllSmallOnes(t *testing.T) {
	right, others := 0, 0
	for n := 1; n <= 6; n++ {
		trees(n, func(text string) {
			l, e := rx.Parse(text)
			if e != api.OK {
				return
			}
			was := slices.Clone(l)
			s, e := Print(l)
			if !slices.Equal(l, was) {
				t.Errorf("%q was changed", text)
			}
			if rx.Refs(l) {
				others++
				if s != "" || e != api.ErrArg {
					t.Errorf("%q %q %d", text, s, e)
				}
				return
			}
			right++
			if got := sayOfParse(s); e != api.OK || got != (said{text, 0, api.OK}) || got != sayOf(s) {
				t.Errorf("%q %q %d %v", text, s, e, got)
			}
		})
	}
	if right < 1000 || others < 100 {
		t.Error(right, others)
	}
}

// again tells whether what s is parsed to is printed, and parsed again, to the same, and that text is printed as it is.
func again(s string) bool {
	l, _, e := Parse(s)
	if e != api.OK {
		return true
	}
	told, e := Print(l)
	if e != api.OK {
		return false
	}
	same, place, e := Parse(told)
	if !slices.Equal(same, l) || place != 0 || e != api.OK {
		return false
	}
	twice, e := Print(same)
	return twice == told && e == api.OK
}

func TestP5_4Again(t *testing.T) {
	try := func(s string) {
		if !again(s) {
			t.Errorf("%q", s)
		}
	}
	for _, x := range rightOnes() {
		try(x.s)
	}
	for n := range 6 {
		texts([]string{"a", "*", "?", "^", "$", "(", ")", "|", "{1,}", `\n`}, n, try)
		texts([]string{"a", "[", "]", "^", "-", `\`, "n", "."}, n, try)
	}
	for _, s := range []string{strings.Repeat("a", 60), strings.Repeat(".", 60), strings.Repeat("[^a]", 60), strings.Repeat("a*", 40), strings.Repeat("a|", 59) + "b", strings.Repeat("(", 9) + "a" + strings.Repeat(")", 9)} {
		try(s)
	}
}

func TestP5_4AgainOfSets(t *testing.T) {
	try := func(s set.Set) {
		l := []rx.Node{{Kind: rx.Bytes, Set: s}}
		told := Show(s)
		if got, place, e := Parse(told); !slices.Equal(got, l) || place != 0 || e != api.OK {
			t.Errorf("%q %q %d %d", told, rx.Text(got), place, e)
		}
		if got, e := Print(l); got != told || e != api.OK {
			t.Errorf("%q %q %d", told, got, e)
		}
	}
	for a := range 256 {
		for b := a; b < 256; b++ {
			s := set.Range(byte(a), byte(b))
			try(s)
			try(set.Or(set.Range(byte(a), byte(a)), set.Range(byte(b), byte(b))))
			if n := set.Not(s); n != (set.Set{}) {
				try(n)
			}
		}
	}
	subsets(".[\\()*+?{}|^$", func(s set.Set) {
		if s != (set.Set{}) {
			try(s)
		}
		try(set.Not(s))
	})
}
