package script

import (
	"fmt"

	"math/rand/v2"
	"slices"
	"strconv"
	"strings"
	"testing"

	"calender/addr"
	"calender/api"
	"calender/rx"
	"calender/subst"
)

// same tells whether two scripts are alike: lists without elements and nil lists are.
func same(a, b Script) bool { return fmt.Sprintf("%+v", a) == fmt.Sprintf("%+v", b) }

// nodesOf is the pattern whose rx.Text told is.
func nodesOf(t *testing.T, told string) []rx.Node {
	t.Helper()
	nodes, e := rx.Parse(told)
	if e != api.OK {
		t.Fatalf("%q: %v", told, e)
	}
	return nodes
}

// mustParse is the script that s has to tell.
func mustParse(t *testing.T, s string, ext bool) Script {
	t.Helper()
	x, place, e := Parse(s, ext)
	if e != api.OK || place != 0 {
		t.Fatalf("%q: %d %v", s, place, e)
	}
	return x
}

// plain is commands that have nothing but what they are.
func plain(ops string) []Cmd {
	var l []Cmd
	for i := range len(ops) {
		l = append(l, Cmd{Op: ops[i], Pat: -1})
	}
	return l
}

// wrong is a text, and what is wrong in it.
type wrong struct {
	s     string
	place int
	e     api.Errno
}

// testWrong holds the answers to l against what they have to be.
func testWrong(t *testing.T, ext bool, l []wrong) {
	t.Helper()
	for _, x := range l {
		if got, place, e := Parse(x.s, ext); !same(got, Script{}) || place != x.place || e != x.e {
			t.Errorf("%q: %+v %d %v", x.s, got, place, e)
		}
	}
}

// testCmds holds the commands of scripts without patterns against what they have to be.
func testCmds(t *testing.T, l map[string][]Cmd) {
	t.Helper()
	for s, want := range l {
		for _, ext := range []bool{false, true} {
			if got, place, e := Parse(s, ext); !same(got, Script{Cmds: want}) || place != 0 || e != api.OK {
				t.Errorf("%q: %+v %d %v", s, got, place, e)
			}
		}
	}
}

func number(n int) addr.Addr { return addr.Addr{Kind: addr.Number, N: n} }

func last() addr.Addr { return addr.Addr{Kind: addr.Last} }

func found(n int) addr.Addr { return addr.Addr{Kind: addr.Rx, N: n} }

func one(a addr.Addr) addr.Range { return addr.Range{A: a} }

func two(a, b addr.Addr) addr.Range { return addr.Range{A: a, B: b} }

func not(g addr.Range) addr.Range {
	g.Not = true
	return g
}

func TestP13_1Example(t *testing.T) {
	testCmds(t, map[string][]Cmd{
		"2,4!{p;d}": {{R: not(two(number(2), number(4))), Op: '{', To: 3, Pat: -1}, {Op: 'p', Pat: -1}, {Op: 'd', Pat: -1}, {Op: '}', To: 0, Pat: -1}},
	})
}

func TestP13_1Plain(t *testing.T) {
	testCmds(t, map[string][]Cmd{
		"": nil, " \t\n;": nil, ";;;": nil, "#": nil, "# p": nil, "#p;d\n": nil, "#n ": nil, "#np": nil, "#n;p": nil, " #n": nil, ";#n\n": nil, "\n#n": nil,
		"=;d;D;g;G;h;H;n;N;p;P;x":              plain("=dDgGhHnNpPx"),
		"=\nd\nD\ng\nG\nh\nH\nn\nN\np\nP\nx\n": plain("=dDgGhHnNpPx"),
		"p":                                    plain("p"), " p": plain("p"), "\tp\t": plain("p"), ";p;": plain("p"), "\n\np\n\n": plain("p"), "p;;;d": plain("pd"), "p ; d": plain("pd"), "p\t;\td": plain("pd"), "p \t\n \td": plain("pd"),
		"p#d": plain("p"), "p #d": plain("p"), "p#d\nx": plain("px"), "#p\nd": plain("d"), "p;#;\n;d": plain("pd"), "# \\\np": plain("p"), "p # }\n": plain("p"), "#\n#\np": plain("p"),
	})
}

func TestP13_1EachOp(t *testing.T) {
	ops := "{}=:abcdDgGhHilnNpPqQrstTwxy"
	// What may stand behind any of them, and each, that it is one and ends there.
	behind := map[byte]string{'{': "p}", ':': "l", 'a': "t", 'i': "t", 'c': "t", 'r': "f", 'w': "f", 's': "/a/b/", 'y': "/a/b/"}
	for i := range 256 {
		op := byte(i)
		s := string([]byte{op}) + behind[op]
		x, place, e := Parse(s, false)
		switch {
		case op == '}':
			if e != api.ErrBlock || place != 0 {
				t.Errorf("%q: %d %v", s, place, e)
			}
		case op == ':' || strings.IndexByte(" \t\n;#", op) >= 0:
			if e != api.OK || !same(x, Script{}) {
				t.Errorf("%q: %+v %d %v", s, x, place, e)
			}
		case strings.IndexByte(ops, op) < 0:
			// Of addresses nothing stands behind them, or they have no end; a 0 alone is none.
			want := api.ErrScript
			if op == '0' {
				want = api.ErrAddr
			}
			if e != want || place != 0 || !same(x, Script{}) {
				t.Errorf("%q: %+v %d %v", s, x, place, e)
			}
		default:
			if e != api.OK || len(x.Cmds) == 0 || x.Cmds[0].Op != op {
				t.Errorf("%q: %+v %d %v", s, x, place, e)
			}
		}
	}
}

func TestP13_1Behind(t *testing.T) {
	// Behind these stands what ends a command, or else it is wrong.
	for _, s := range []string{"=", "d", "D", "g", "G", "h", "H", "n", "N", "p", "P", "x", "l", "l7", "q", "Q", "q7", "1p", "$!d", "s/a/b/", "s/a/b/gp2", "y/a/b/"} {
		for _, blanks := range []string{"", " ", "\t", " \t "} {
			for _, end := range []string{"", ";", "\n", "#x", "#\n", ";;"} {
				if x, place, e := Parse(s+blanks+end, false); e != api.OK || place != 0 || len(x.Cmds) != 1 {
					t.Errorf("%q: %+v %d %v", s+blanks+end, x, place, e)
				}
			}
			whole := "{" + s + blanks + "}"
			if x, place, e := Parse(whole, false); e != api.OK || place != 0 || len(x.Cmds) != 3 || x.Cmds[2].Op != '}' {
				t.Errorf("%q: %+v %d %v", whole, x, place, e)
			}
			for _, other := range []string{"=", "!", "{", ",", "\\", "\x00", "\xff", "\r", "a", "/"} {
				testWrong(t, false, []wrong{{"p;" + s + blanks + other, 2, api.ErrScript}})
			}
		}
	}
	// Behind those of blocks may stand anything.
	nested := []Cmd{{Op: '{', To: 4, Pat: -1}, {Op: '{', To: 3, Pat: -1}, {Op: 'p', Pat: -1}, {Op: '}', To: 1, Pat: -1}, {Op: '}', To: 0, Pat: -1}, {Op: 'd', Pat: -1}}
	testCmds(t, map[string][]Cmd{"{{p}}d": nested, "{ { p } } d": nested, "{;{;p;};};d": nested, "{\n{\np\n}\n}\nd": nested, "{#a\n{#b}\np#c\n}#d\n}#e\nd": nested})
}

func TestP13_1Addresses(t *testing.T) {
	step := func(n, m int) addr.Addr { return addr.Addr{Kind: addr.Step, N: n, M: m} }
	plus := func(n int) addr.Addr { return addr.Addr{Kind: addr.Plus, N: n} }
	round := func(n int) addr.Addr { return addr.Addr{Kind: addr.Round, N: n} }
	for s, want := range map[string]addr.Range{
		"p": {}, "1p": one(number(1)), "007p": one(number(7)), "999999999p": one(number(999999999)), "$p": one(last()),
		"0~3p": one(step(0, 3)), "2~0p": one(step(2, 0)), "0~0p": one(step(0, 0)), "999999999~999999999p": one(step(999999999, 999999999)), "01~02p": one(step(1, 2)),
		"1,3p": two(number(1), number(3)), "3,1p": two(number(3), number(1)), "1,0p": two(number(1), number(0)), "1,$p": two(number(1), last()), "$,1p": two(last(), number(1)), "$,$p": two(last(), last()),
		"1,+3p": two(number(1), plus(3)), "$,+0p": two(last(), plus(0)), "1,~4p": two(number(1), round(4)), "1~2,~0p": two(step(1, 2), round(0)), "2~3,5p": two(step(2, 3), number(5)), "1,+999999999p": two(number(1), plus(999999999)),
		"!p": not(addr.Range{}), "1!p": not(one(number(1))), "1,2!p": not(two(number(1), number(2))), "$!p": not(one(last())),
		"1 p": one(number(1)), "1\tp": one(number(1)), "1 , 2 p": two(number(1), number(2)), "1\t,\t2\tp": two(number(1), number(2)), "1 \t, \t$ \t! \tp": not(two(number(1), last())), "1 ! p": not(one(number(1))), "! p": not(addr.Range{}), "1, +2p": two(number(1), plus(2)), "1 ,~2 p": two(number(1), round(2)), "1!\tp": not(one(number(1))),
	} {
		testCmds(t, map[string][]Cmd{s: {{R: want, Op: 'p', Pat: -1}}})
	}
	// q and Q have one, all others two, and all may be turned.
	for _, s := range []string{"=", "d", "D", "g", "G", "h", "H", "n", "N", "P", "x", "a t", "i t", "c t", "b", "t", "T", "l", "r f", "w f", "s/a/b/", "y/a/b/", "{}"} {
		if x := mustParse(t, "3,$!"+s, false); x.Cmds[0].R != not(two(number(3), last())) {
			t.Errorf("%q: %+v", s, x)
		}
	}
	for _, s := range []string{"q", "Q", "q 4", "Q4"} {
		if x := mustParse(t, "3!"+s, false); x.Cmds[0].R != not(one(number(3))) {
			t.Errorf("%q: %+v", s, x)
		}
	}
}

func TestP13_1AddressesOfWrongOnes(t *testing.T) {
	testWrong(t, false, []wrong{
		// Numbers that are not there, or are too great.
		{"1000000000p", 0, api.ErrAddr}, {"99999999999999999999999p", 0, api.ErrAddr}, {"1~p", 0, api.ErrAddr}, {"1~", 0, api.ErrAddr}, {"1~1000000000p", 0, api.ErrAddr}, {"1~ 2p", 0, api.ErrAddr}, {"1~$p", 0, api.ErrAddr},
		{"1,+p", 0, api.ErrAddr}, {"1,~p", 0, api.ErrAddr}, {"1,+", 0, api.ErrAddr}, {"1,~", 0, api.ErrAddr}, {"1,+1000000000p", 0, api.ErrAddr}, {"1,~1000000000p", 0, api.ErrAddr}, {"1,1000000000p", 0, api.ErrAddr}, {"1,+ 2p", 0, api.ErrAddr}, {"1,~ 2p", 0, api.ErrAddr}, {"1,2~p", 0, api.ErrAddr}, {"1,+-2p", 0, api.ErrAddr},
		// Nothing stands behind a comma.
		{"1,", 0, api.ErrAddr}, {"1,p", 0, api.ErrAddr}, {"1, p", 0, api.ErrAddr}, {"1,!p", 0, api.ErrAddr}, {"1,,2p", 0, api.ErrAddr}, {"1,;p", 0, api.ErrAddr}, {"$ ,\t}", 0, api.ErrAddr}, {"1,\n2p", 0, api.ErrAddr}, {"/a/,p", 0, api.ErrAddr}, {"1,#", 0, api.ErrAddr},
		// None that may be.
		{"0p", 0, api.ErrAddr}, {"00p", 0, api.ErrAddr}, {"0", 0, api.ErrAddr}, {"0!p", 0, api.ErrAddr}, {"0,3p", 0, api.ErrAddr}, {"0,$p", 0, api.ErrAddr}, {"0,+2p", 0, api.ErrAddr}, {"0,~2p", 0, api.ErrAddr}, {"1,2~3p", 0, api.ErrAddr}, {"/a/,0~2p", 0, api.ErrAddr}, {"0,0p", 0, api.ErrAddr},
		// More than they may have.
		{"{1}", 1, api.ErrAddr}, {"{p;1,2}", 3, api.ErrAddr}, {"{!}", 1, api.ErrAddr}, {"{$!}", 1, api.ErrAddr}, {"1:a", 0, api.ErrAddr}, {"1,2:a", 0, api.ErrAddr}, {"!:a", 0, api.ErrAddr}, {"/a/!:a", 0, api.ErrAddr},
		{"1,2q", 0, api.ErrAddr}, {"1,2Q", 0, api.ErrAddr}, {"/a/,/b/q", 0, api.ErrAddr}, {"1,2!q", 0, api.ErrAddr}, {"p;1,$Q5", 2, api.ErrAddr},
		// The place is that where the addresses begin.
		{"p\n  2,5z", 4, api.ErrScript}, {"p;\t0d", 3, api.ErrAddr}, {" ;#x\n1,2!!p", 5, api.ErrScript},
		// What is no address is a command that is none, and so is what follows one too many.
		{",2p", 0, api.ErrScript}, {"+2p", 0, api.ErrScript}, {"~2p", 0, api.ErrScript}, {"1+2p", 0, api.ErrScript}, {"1,2,3p", 0, api.ErrScript}, {"1 2p", 0, api.ErrScript}, {"$$p", 0, api.ErrScript}, {"1 ~2p", 0, api.ErrScript}, {"$~2p", 0, api.ErrScript}, {"!!p", 0, api.ErrScript}, {"1!,2p", 0, api.ErrScript}, {"-1p", 0, api.ErrScript}, {"1,+2~3p", 0, api.ErrScript},
		{"1", 0, api.ErrScript}, {"1,2", 0, api.ErrScript}, {"1!", 0, api.ErrScript}, {"!", 0, api.ErrScript}, {"$ ", 0, api.ErrScript}, {"1;p", 0, api.ErrScript}, {"1\np", 0, api.ErrScript}, {"1#p", 0, api.ErrScript}, {"1,2\n", 0, api.ErrScript}, {"!\np", 0, api.ErrScript}, {"1!;p", 0, api.ErrScript},
	})
}

// tellPats is rx.Text of each pattern, and I behind those that are Fold.
func tellPats(x Script) string {
	var l []string
	for _, p := range x.Pats {
		told := rx.Text(p.Nodes)
		if p.Fold {
			told += "I"
		}
		l = append(l, told)
	}
	return strings.Join(l, " ")
}

func TestP13_1Patterns(t *testing.T) {
	for _, x := range []struct {
		s, pats string
		ranges  []addr.Range
	}{
		{"/a/p", "[61]", []addr.Range{one(found(0))}},
		{"/a/Ip", "[61]I", []addr.Range{one(found(0))}},
		{"/a/I p", "[61]I", []addr.Range{one(found(0))}},
		{"/a/I!p", "[61]I", []addr.Range{not(one(found(0)))}},
		{"/a/,/b/p", "[61] [62]", []addr.Range{two(found(0), found(1))}},
		{"/a/I,/b/Ip", "[61]I [62]I", []addr.Range{two(found(0), found(1))}},
		{"/a/ , /b/I p", "[61] [62]I", []addr.Range{two(found(0), found(1))}},
		{"0,/a/p", "[61]", []addr.Range{two(number(0), found(0))}},
		{"/a/,+2p", "[61]", []addr.Range{two(found(0), addr.Addr{Kind: addr.Plus, N: 2})}},
		{"/a/p;/b/,/a/!d", "[61] [62] [61]", []addr.Range{one(found(0)), not(two(found(1), found(2)))}},
		{"//p", "e", []addr.Range{one(found(0))}},
		{"//Ip", "eI", []addr.Range{one(found(0))}},
		{"/a/s//x/", "[61] e", []addr.Range{one(found(0))}},
		{"/a/{/b/Id}", "[61] [62]I", []addr.Range{one(found(0)), one(found(1)), {}}},
		{"/c/,/d/s/e/f/;s/g/h/", "[63] [64] [65] [67]", []addr.Range{two(found(0), found(1)), {}}},
		// Any byte may be the delimiter.
		{`\,a,p`, "[61]", []addr.Range{one(found(0))}},
		{`\,a\,/,Ip`, "&[61]&[2c][2f]I", []addr.Range{one(found(0))}},
		{`1,\xaxp`, "[61]", []addr.Range{two(number(1), found(0))}},
		{`\IaIIp`, "[61]I", []addr.Range{one(found(0))}},
		{`\ a p`, "[61]", []addr.Range{one(found(0))}},
		{`\;a;p`, "[61]", []addr.Range{one(found(0))}},
		{`\}a}p`, "[61]", []addr.Range{one(found(0))}},
		{`\#a#p`, "[61]", []addr.Range{one(found(0))}},
		{`\,a,,\,b,p`, "[61] [62]", []addr.Range{two(found(0), found(1))}},
		{"\\\xff\xfe\xffp", "[fe]", []addr.Range{one(found(0))}},
		{`\1a1,2p`, "[61]", []addr.Range{two(found(0), number(2))}},
		{`/a\/b/p`, "&[61]&[2f][62]", []addr.Range{one(found(0))}},
		{`/\n/p`, "[0a]", []addr.Range{one(found(0))}},
		{"/ ;#}/p", "&[20]&[3b]&[23][7d]", []addr.Range{one(found(0))}},
		{`/[\/]/p`, "[2f]", []addr.Range{one(found(0))}},
		{"/^a*$/p", "&^&*0,-1;[61]$", []addr.Range{one(found(0))}},
	} {
		got := mustParse(t, x.s, false)
		var ranges []addr.Range
		for _, c := range got.Cmds {
			ranges = append(ranges, c.R)
		}
		if tellPats(got) != x.pats || !slices.Equal(ranges, x.ranges) {
			t.Errorf("%q: %q %+v", x.s, tellPats(got), ranges)
		}
	}
}

func TestP13_1PatternsOfWrongOnes(t *testing.T) {
	testWrong(t, false, []wrong{
		{"/a", 0, api.ErrScript}, {"/", 0, api.ErrScript}, {"/ap", 0, api.ErrScript}, {"/a\n/p", 0, api.ErrScript}, {`/a\/p`, 0, api.ErrScript}, {`/a\`, 0, api.ErrScript}, {"p;/a", 2, api.ErrScript}, {"1,/a", 0, api.ErrScript},
		{`\`, 0, api.ErrScript}, {`1,\`, 0, api.ErrScript}, {`\,`, 0, api.ErrScript}, {`\,a`, 0, api.ErrScript}, {`\\a\p`, 0, api.ErrScript}, {"\\\na\np", 0, api.ErrScript}, {"1,\\\na\np", 0, api.ErrScript},
		{"/[/]/p", 0, api.ErrSet}, {"d;/[z-a]/p", 2, api.ErrSet}, {`/\(a/p`, 0, api.ErrParen}, {`/a\{3,2\}/p`, 0, api.ErrCount}, {`/\1/p`, 0, api.ErrRef}, {`/\w/p`, 0, api.ErrRx}, {"/a\\\nb/p", 0, api.ErrRx}, {"1,/[/p", 0, api.ErrSet}, {"/" + strings.Repeat("a", 61) + "/p", 0, api.ErrWide},
		// I stands directly behind a pattern, once, and behind no other address.
		{"/a/ Ip", 0, api.ErrScript}, {"/a/IIp", 0, api.ErrScript}, {"1Ip", 0, api.ErrScript}, {"$Ip", 0, api.ErrScript}, {"/a/,/b/IIp", 0, api.ErrScript},
	})
	testWrong(t, true, []wrong{
		{"/(a/p", 0, api.ErrParen}, {"/a{/p", 0, api.ErrCount}, {"/*/p", 0, api.ErrCount}, {"/a|/p", 0, api.ErrRx}, {"/[/p", 0, api.ErrSet}, {`/(a)\1/p`, 0, api.ErrRef}, {"p;1,/(/p", 2, api.ErrRx}, {"/a", 0, api.ErrScript},
	})
}

func TestP13_1BasicAndExtended(t *testing.T) {
	// What the patterns are, or the number of the error.
	for s, want := range map[string][2]string{
		"/a+/p":        {"&[61][2b]", "*1,-1;[61]"},
		`/a\+/p`:       {"40", "&[61][2b]"},
		"/(a)/p":       {"&[28]&[61][29]", "([61])"},
		`/\(a\)/p`:     {"([61])", "&[28]&[61][29]"},
		"/a|b/p":       {"&[61]&[7c][62]", "|[61][62]"},
		`/\(a\)\1/p`:   {`&([61])\1`, "44"},
		"s/a?/x/":      {"&[61][3f]", "*0,1;[61]"},
		`s/\(a\)/\1/`:  {"([61])", "44"},
		`s/(a)/\1/`:    {"44", "([61])"},
		`s|a\|b|x|`:    {"&[61]&[7c][62]", "|[61][62]"},
		`\|a\|b|p`:     {"&[61]&[7c][62]", "|[61][62]"},
		"/a{2}/p":      {"&[61]&[7b]&[32][7d]", "*2,2;[61]"},
		`s/a\{2,3\}//`: {"*2,3;[61]", "&[61]&[7b]&[32]&[2c]&[33][7d]"},
		"/*/p":         {"[2a]", "43"},
		"//p":          {"e", "e"},
		"/a|b/,/c+/p":  {"&[61]&[7c][62] &[63][2b]", "|[61][62] *1,-1;[63]"},
	} {
		for i, ext := range []bool{false, true} {
			x, _, e := Parse(s, ext)
			got := tellPats(x)
			if e != api.OK {
				got = strconv.Itoa(int(e))
			}
			if got != want[i] {
				t.Errorf("%q %v: %q", s, ext, got)
			}
		}
	}
}

func TestP13_1ManyPatterns(t *testing.T) {
	for _, ext := range []bool{false, true} {
		most := strings.Repeat("//p;", 999)
		if x := mustParse(t, most, ext); len(x.Pats) != 999 || x.Cmds[998].R.A != found(998) {
			t.Errorf("%d %+v", len(x.Pats), x.Cmds[998])
		}
		testWrong(t, ext, []wrong{{most + "//p", 3996, api.ErrWide}})
		// Those of two addresses, and of s, are counted likewise.
		pairs := strings.Repeat("//,//p;", 499)
		if x := mustParse(t, pairs+"s///", ext); len(x.Pats) != 999 || x.Cmds[499].Pat != 998 {
			t.Errorf("%d", len(x.Pats))
		}
		testWrong(t, ext, []wrong{
			{pairs + "//,//p", 3493, api.ErrWide}, {pairs + "//s///", 3493, api.ErrWide}, {pairs + "//p;s///", 3497, api.ErrWide},
			// What is wrong with the pattern itself, or ahead of it, is met ahead of that.
			{pairs + "//,/[/p", 3493, api.ErrSet}, {pairs + "//,/p", 3493, api.ErrScript}, {pairs + "//,//z", 3493, api.ErrWide}, {pairs + "//s//", 3493, api.ErrWide},
		})
	}
}

func TestP13_1Wide(t *testing.T) {
	for _, ext := range []bool{false, true} {
		if x := mustParse(t, strings.Repeat("p;", 2000), ext); len(x.Cmds) != 2000 {
			t.Error(len(x.Cmds))
		}
		if x := mustParse(t, "#n\n"+strings.Repeat("p\n", 1998)+"d", ext); len(x.Cmds) != 1999 || !x.Quiet {
			t.Error(len(x.Cmds))
		}
		for _, s := range []string{strings.Repeat("p;", 2000) + "p", strings.Repeat(" ", 4001), strings.Repeat("{", 4001), "#" + strings.Repeat("x", 4000), "z" + strings.Repeat("\n", 4000), strings.Repeat("p\n", 50000)} {
			testWrong(t, ext, []wrong{{s, 0, api.ErrWide}})
		}
		testWrong(t, ext, []wrong{{strings.Repeat("{", 4000), 3999, api.ErrBlock}, {strings.Repeat(" ", 3999) + "}", 3999, api.ErrBlock}, {strings.Repeat("p", 4000), 0, api.ErrScript}})
		if x := mustParse(t, strings.Repeat("{", 2000)+strings.Repeat("}", 2000), ext); x.Cmds[0].To != 3999 || x.Cmds[1999].To != 2000 || x.Cmds[2000].To != 1999 || x.Cmds[3999].To != 0 {
			t.Error("blocks")
		}
	}
}

func TestP13_1Quiet(t *testing.T) {
	for s, want := range map[string]Script{
		"#n": {Quiet: true}, "#n\n": {Quiet: true}, "#n\np": {Quiet: true, Cmds: plain("p")}, "#n\n#n\nd": {Quiet: true, Cmds: plain("d")}, "#n\n\n;p": {Quiet: true, Cmds: plain("p")},
		"#n ": {}, "#n;p": {}, "#np\nd": {Cmds: plain("d")}, " #n\np": {Cmds: plain("p")}, "\n#n\np": {Cmds: plain("p")}, "#N\np": {Cmds: plain("p")}, "# n\np": {Cmds: plain("p")}, "#\nn": {Cmds: plain("n")}, "p\n#n\n": {Cmds: plain("p")}, "#n#\np": {Cmds: plain("p")}, "#n\r\np": {Cmds: plain("p")},
	} {
		if x := mustParse(t, s, false); !same(x, want) {
			t.Errorf("%q: %+v", s, x)
		}
	}
	// Places are those of the whole.
	testWrong(t, false, []wrong{{"#n\nz", 3, api.ErrScript}, {"#n\np;{", 5, api.ErrBlock}, {"#n\n}", 3, api.ErrBlock}})
}

func TestP13_1Blocks(t *testing.T) {
	testCmds(t, map[string][]Cmd{
		"{}":      {{Op: '{', To: 1, Pat: -1}, {Op: '}', To: 0, Pat: -1}},
		"{};{}":   {{Op: '{', To: 1, Pat: -1}, {Op: '}', To: 0, Pat: -1}, {Op: '{', To: 3, Pat: -1}, {Op: '}', To: 2, Pat: -1}},
		"{{}{}}":  {{Op: '{', To: 5, Pat: -1}, {Op: '{', To: 2, Pat: -1}, {Op: '}', To: 1, Pat: -1}, {Op: '{', To: 4, Pat: -1}, {Op: '}', To: 3, Pat: -1}, {Op: '}', To: 0, Pat: -1}},
		"p;1{d}x": {{Op: 'p', Pat: -1}, {R: one(number(1)), Op: '{', To: 3, Pat: -1}, {Op: 'd', Pat: -1}, {Op: '}', To: 1, Pat: -1}, {Op: 'x', Pat: -1}},
		"{:a}":    {{Op: '{', To: 1, Pat: -1}, {Op: '}', To: 0, Pat: -1}},
	})
	testWrong(t, false, []wrong{
		{"}", 0, api.ErrBlock}, {" ; }", 3, api.ErrBlock}, {"{}}", 2, api.ErrBlock}, {"p}", 1, api.ErrBlock}, {"{p};d}", 5, api.ErrBlock}, {"}{", 0, api.ErrBlock}, {"p;l}", 3, api.ErrBlock},
		{"{", 0, api.ErrBlock}, {"{p", 0, api.ErrBlock}, {"p;{", 2, api.ErrBlock}, {"{{", 1, api.ErrBlock}, {"{{}", 0, api.ErrBlock}, {"{}{", 2, api.ErrBlock}, {"{p;1,2!{d}", 0, api.ErrBlock}, {"{ 1,$ ! {d", 2, api.ErrBlock}, {"{{};{", 4, api.ErrBlock}, {"/a/{", 0, api.ErrBlock},
		// Of a remark, and of what takes the line, a } is no end.
		{"{#}", 0, api.ErrBlock}, {"{a}", 0, api.ErrBlock}, {"{r f}", 0, api.ErrBlock}, {"{w f}", 0, api.ErrBlock}, {"{s/a/b/w f}", 0, api.ErrBlock}, {"{/}/p", 0, api.ErrBlock},
		// Others are met ahead of it.
		{"{z", 1, api.ErrScript}, {"{;0p", 2, api.ErrAddr}, {"{b a", 0, api.ErrBlock}, {"b a;{", 4, api.ErrBlock},
	})
}

func TestP13_1Texts(t *testing.T) {
	for s, want := range map[string]string{
		" t": "t\n", "t": "t\n", " \t t": "t\n", "t  ": "t  \n", " t;p}#x": "t;p}#x\n", "\\\nt": "t\n", " \\\n  t": "  t\n", "\t\\\n\tt": "\tt\n", "\\\n\\\nt": "\nt\n", "\\\n\n": "\n", "\n": "\n", "  \n": "\n",
		"t\\\nu": "t\nu\n", "\\\nt\\\nu\\\nv": "t\nu\nv\n", " \\  t": "  t\n", "\\t": "t\n", "t\\\\": "t\\\n", "t\\\\\n": "t\\\n", "\\\\\n": "\\\n", " a\\b": "ab\n", "\\;": ";\n", "\\\n\\  t": "  t\n", "\x00\xff": "\x00\xff\n", "\\ ": " \n", "\\\n ": " \n",
	} {
		for _, op := range []byte("aic") {
			x, place, e := Parse("1"+string(op)+s, false)
			if e != api.OK || place != 0 || !same(x, Script{Cmds: []Cmd{{R: one(number(1)), Op: op, Text: want, Pat: -1}}}) {
				t.Errorf("%c %q: %+v %d %v", op, s, x, place, e)
			}
		}
	}
	// It takes its line, and nothing of the next one.
	for _, op := range []byte("aic") {
		want := []Cmd{{Op: op, Text: "t;\n", Pat: -1}, {Op: 'p', Pat: -1}}
		testCmds(t, map[string][]Cmd{string(op) + " t;\np": want, string(op) + "\\\nt;\np": want, string(op) + " t;\n\n ;p": want, string(op) + "\\\nt;\n#\np": want})
		testCmds(t, map[string][]Cmd{"{" + string(op) + "}\n}": {{Op: '{', To: 2, Pat: -1}, {Op: op, Text: "}\n", Pat: -1}, {Op: '}', To: 0, Pat: -1}}})
		testCmds(t, map[string][]Cmd{string(op) + "\n=": {{Op: op, Text: "\n", Pat: -1}, {Op: '=', Pat: -1}}})
		testCmds(t, map[string][]Cmd{string(op) + " a\n" + string(op) + "\\\nb": {{Op: op, Text: "a\n", Pat: -1}, {Op: op, Text: "b\n", Pat: -1}}})
		testWrong(t, false, []wrong{{"p;" + string(op), 2, api.ErrScript}, {string(op) + " ", 0, api.ErrScript}, {string(op) + " \t", 0, api.ErrScript}, {string(op) + "\\\n", 0, api.ErrScript}, {string(op) + " \\\n", 0, api.ErrScript}, {string(op) + "\\", 0, api.ErrScript}, {string(op) + " t\\", 0, api.ErrScript}, {string(op) + "\\\nt\\", 0, api.ErrScript}, {"p\n$!" + string(op), 2, api.ErrScript}, {string(op) + " t\n}", 4, api.ErrBlock}})
	}
}

func TestP13_1Labels(t *testing.T) {
	p, open := Cmd{Op: 'p', Pat: -1}, func(to int) Cmd { return Cmd{Op: '{', To: to, Pat: -1} }
	for _, op := range []byte("btT") {
		o := string(op)
		jump := func(to int) Cmd { return Cmd{Op: op, To: to, Pat: -1} }
		shut := func(to int) Cmd { return Cmd{Op: '}', To: to, Pat: -1} }
		testCmds(t, map[string][]Cmd{
			// No label is the end.
			o: {jump(1)}, o + " ": {jump(1)}, o + ";p": {jump(2), p}, o + "\np": {jump(2), p}, "p;" + o + " \t;p": {p, jump(3), p}, "{" + o + "}": {open(2), jump(3), shut(0)}, "{" + o + " }p": {open(2), jump(4), shut(0), p},
			// Else it is the command behind the label, ahead or behind.
			":a;p;" + o + " a": {p, jump(0)}, "p;:a;p;" + o + "a": {p, p, jump(1)}, o + " a;p;:a;p": {jump(2), p, p}, o + "a\n:a": {jump(1)}, ":a\n" + o + "\ta\t": {jump(0)}, o + " a;:b;:a;p;:c": {jump(1), p}, "p;: a ;" + o + " \ta \t;p": {p, jump(1), p}, ":a;" + o + " a;" + o + " b;:b": {jump(0), jump(2)},
			// Blocks are of no matter, and their ends are commands.
			"{:a}" + o + " a": {open(1), shut(0), jump(1)}, o + " a;{p;:a}": {jump(3), open(3), p, shut(1)}, "{" + o + " a}:a": {open(2), jump(3), shut(0)}, "{:a\n" + o + " a}": {open(2), jump(1), shut(0)},
			// A label goes up to what ends it, and all else is of it.
			":a#b\n" + o + " a#b": {jump(0)}, ":{\n" + o + "{": {jump(0)}, ":!,/\n" + o + " !,/": {jump(0)}, "::\n" + o + ":": {jump(0)}, ":1;" + o + "1": {jump(0)}, ":\xff\x00;p;" + o + "\xff\x00": {p, jump(0)}, ":\\;" + o + "\\": {jump(0)}, ":a\r\n" + o + "a\r": {jump(0)}, ":A;p;:a;" + o + " a": {p, jump(1)}, ":ab;p;:a;" + o + " a;" + o + " ab": {p, jump(1), jump(0)},
		})
		testWrong(t, false, []wrong{
			{o + " a b", 0, api.ErrLabel}, {o + " a\tb", 0, api.ErrLabel}, {"p;" + o + " a b;:a b", 2, api.ErrLabel}, {":a;" + o + " a p", 3, api.ErrLabel}, {o + " ;b a b", 3, api.ErrLabel},
			// Of those that are not there the first one is told.
			{o + " a", 0, api.ErrLabel}, {"p;" + o + " a;:b", 2, api.ErrLabel}, {"p\n 1," + "2!" + o + " a\n:b", 3, api.ErrLabel}, {":a;" + o + " a;" + o + " b;" + o + " c", 7, api.ErrLabel}, {o + " c;" + o + " a;:a", 0, api.ErrLabel}, {":a;" + o + " A", 3, api.ErrLabel}, {"#n\n{" + o + " a}", 4, api.ErrLabel}, {o + "a#", 0, api.ErrLabel}, {":a#\n" + o + "a", 4, api.ErrLabel},
			// What is met first, or open, is told ahead of them.
			{o + " a;z", 4, api.ErrScript}, {o + " a;}", 4, api.ErrBlock}, {o + " a;:b;:b", 7, api.ErrLabel}, {o + " a;{", 4, api.ErrBlock},
		})
	}
	testCmds(t, map[string][]Cmd{":a": nil, ": a": nil, ":a;:b": nil, "\t:\ta\t\n": nil, ":a\n:b\n": nil})
	testWrong(t, false, []wrong{
		{":", 0, api.ErrLabel}, {": ", 0, api.ErrLabel}, {":;p", 0, api.ErrLabel}, {"{:}", 1, api.ErrLabel}, {":\na", 0, api.ErrLabel}, {":a b", 0, api.ErrLabel}, {":a\tb", 0, api.ErrLabel}, {"p;:a #b", 2, api.ErrLabel}, {":a;:a", 3, api.ErrLabel}, {"b a\n:a\np\n : a\n", 10, api.ErrLabel}, {":a;p;:b;:b;:a", 8, api.ErrLabel},
	})
}

func TestP13_1Numbers(t *testing.T) {
	for _, x := range []struct {
		s  string
		op byte
		n  int
	}{
		{"l", 'l', -1}, {"l ", 'l', -1}, {"l5", 'l', 5}, {"l 5", 'l', 5}, {"l\t5 ", 'l', 5}, {"l0", 'l', 0}, {"l 1", 'l', 1}, {"l 007", 'l', 7}, {"l 999999999", 'l', 999999999}, {"l#5", 'l', -1}, {"l;", 'l', -1}, {"l\n", 'l', -1}, {"l 256", 'l', 256},
		{"q", 'q', 0}, {"q ", 'q', 0}, {"q5", 'q', 5}, {"q 5", 'q', 5}, {"q \t0;", 'q', 0}, {"q255", 'q', 255}, {"q 000255", 'q', 255}, {"Q", 'Q', 0}, {"Q1", 'Q', 1}, {"Q 255", 'Q', 255}, {"Q#", 'Q', 0},
	} {
		testCmds(t, map[string][]Cmd{x.s: {{Op: x.op, N: x.n, Pat: -1}}})
	}
	testWrong(t, true, []wrong{
		{"l1000000000", 0, api.ErrScript}, {"l 99999999999999999999", 0, api.ErrScript}, {"p;q256", 2, api.ErrScript}, {"Q256", 0, api.ErrScript}, {"q 1000000000", 0, api.ErrScript}, {"q 99999999999999999999", 0, api.ErrScript}, {"Q 256;", 0, api.ErrScript},
		{"l 5 5", 0, api.ErrScript}, {"l -1", 0, api.ErrScript}, {"q x", 0, api.ErrScript}, {"q5p", 0, api.ErrScript}, {"q 1,2", 0, api.ErrScript}, {"p5", 0, api.ErrScript}, {"d 5", 0, api.ErrScript}, {"=1", 0, api.ErrScript},
	})
}

func TestP13_1Names(t *testing.T) {
	for _, op := range []byte("rw") {
		o := string(op)
		file := func(name string) Cmd { return Cmd{Op: op, Text: name, Pat: -1} }
		testCmds(t, map[string][]Cmd{
			o + " f": {file("f")}, o + "f": {file("f")}, o + " \tf \t": {file("f")}, o + " a b": {file("a b")}, o + " a;p": {file("a;p")}, o + " f}": {file("f}")}, o + " f#g": {file("f#g")}, o + " f\np": {file("f"), {Op: 'p', Pat: -1}}, o + " f \n\n": {file("f")}, o + " #": {file("#")}, o + ";": {file(";")}, o + " \\\np": {file("\\"), {Op: 'p', Pat: -1}}, o + " \xff\x00": {file("\xff\x00")},
			"{" + o + " f\n}":      {{Op: '{', To: 2, Pat: -1}, file("f"), {Op: '}', To: 0, Pat: -1}},
			"1," + "$!" + o + " f": {{R: not(two(number(1), last())), Op: op, Text: "f", Pat: -1}},
		})
		testWrong(t, true, []wrong{{o, 0, api.ErrScript}, {o + " ", 0, api.ErrScript}, {o + "\t \n", 0, api.ErrScript}, {o + "\nf", 0, api.ErrScript}, {"p;" + o, 2, api.ErrScript}})
	}
}

func TestP13_1Replacements(t *testing.T) {
	text := func(s string) subst.Part { return subst.Part{Text: s, Group: -1} }
	group := func(n int) subst.Part { return subst.Part{Group: n} }
	b := []subst.Part{text("b")}
	for _, x := range []struct {
		s, pats string
		want    Cmd
	}{
		{"s/a/b/", "[61]", Cmd{N: 1, Parts: b}},
		{"s///", "e", Cmd{N: 1}},
		{"s/a//", "[61]", Cmd{N: 1}},
		{"s/a/&&/", "[61]", Cmd{N: 1, Parts: []subst.Part{group(0), group(0)}}},
		{`s/\(a\)/<\1>\n/`, "([61])", Cmd{N: 1, Parts: []subst.Part{text("<"), group(1), text(">\n")}}},
		{"s/a/x\\\ny/", "[61]", Cmd{N: 1, Parts: []subst.Part{text("x\ny")}}},
		{`s//\9/`, "e", Cmd{N: 1, Parts: []subst.Part{group(9)}}},
		{`s//\1/I`, "eI", Cmd{N: 1, Parts: []subst.Part{group(1)}}},
		// Any byte may be the delimiter.
		{"s,a,b,", "[61]", Cmd{N: 1, Parts: b}}, {"s a b ", "[61]", Cmd{N: 1, Parts: b}}, {"sgagbg", "[61]", Cmd{N: 1, Parts: b}}, {"sgagbgg", "[61]", Cmd{N: 1, Parts: b, All: true}}, {"s1a1b12", "[61]", Cmd{N: 2, Parts: b}}, {"s;a;b;;", "[61]", Cmd{N: 1, Parts: b}}, {"s#a#b#", "[61]", Cmd{N: 1, Parts: b}}, {"s}a}b}", "[61]", Cmd{N: 1, Parts: b}}, {"s\xffa\xffb\xff", "[61]", Cmd{N: 1, Parts: b}},
		{`s,a\,,b\,/,`, "&[61][2c]", Cmd{N: 1, Parts: []subst.Part{text("b,/")}}}, {`s/a\//b\//`, "&[61][2f]", Cmd{N: 1, Parts: []subst.Part{text("b/")}}},
		// Flags, in any order.
		{"s/a/b/g", "[61]", Cmd{N: 1, Parts: b, All: true}}, {"s/a/b/p", "[61]", Cmd{N: 1, Parts: b, Print: true}}, {"s/a/b/I", "[61]I", Cmd{N: 1, Parts: b}}, {"s/a/b/3", "[61]", Cmd{N: 3, Parts: b}}, {"s/a/b/007", "[61]", Cmd{N: 7, Parts: b}}, {"s/a/b/999999999", "[61]", Cmd{N: 999999999, Parts: b}}, {"s/a/b/1", "[61]", Cmd{N: 1, Parts: b}},
		{"s/a/b/gpI2", "[61]I", Cmd{N: 2, Parts: b, All: true, Print: true}}, {"s/a/b/2Ipg", "[61]I", Cmd{N: 2, Parts: b, All: true, Print: true}}, {"s/a/b/g12p", "[61]", Cmd{N: 12, Parts: b, All: true, Print: true}},
		{"s/a/b/w f", "[61]", Cmd{N: 1, Parts: b, Text: "f"}}, {"s/a/b/wf", "[61]", Cmd{N: 1, Parts: b, Text: "f"}}, {"s/a/b/w \tf;p} \t", "[61]", Cmd{N: 1, Parts: b, Text: "f;p}"}}, {"s/a/b/g3w pg2", "[61]", Cmd{N: 3, Parts: b, All: true, Text: "pg2"}}, {"s/a/b/pw w#\n", "[61]", Cmd{N: 1, Parts: b, Print: true, Text: "w#"}}, {"s/a/b/Iww", "[61]I", Cmd{N: 1, Parts: b, Text: "w"}},
		{"s/a/b/ \t#g", "[61]", Cmd{N: 1, Parts: b}}, {"s/a/b/;", "[61]", Cmd{N: 1, Parts: b}},
	} {
		got := mustParse(t, x.s, false)
		x.want.Op = 's'
		if tellPats(got) != x.pats || !same(Script{Cmds: got.Cmds}, Script{Cmds: []Cmd{x.want}}) {
			t.Errorf("%q: %q %+v", x.s, tellPats(got), got.Cmds)
		}
	}
	// The pattern is the one behind those of the addresses.
	x := mustParse(t, "s/a/b/;/c/,/d/s/e/f/I;p;s//g/", false)
	if tellPats(x) != "[61] [63] [64] [65]I e" || x.Cmds[0].Pat != 0 || x.Cmds[1].Pat != 3 || x.Cmds[2].Pat != -1 || x.Cmds[3].Pat != 4 {
		t.Errorf("%q %+v", tellPats(x), x.Cmds)
	}
	// A file takes the line.
	if x = mustParse(t, "s/a/b/w f;p\np", false); len(x.Cmds) != 2 || x.Cmds[0].Text != "f;p" {
		t.Errorf("%+v", x.Cmds)
	}
}

func TestP13_1ReplacementsOfWrongOnes(t *testing.T) {
	testWrong(t, false, []wrong{
		{"s", 0, api.ErrScript}, {"s/", 0, api.ErrScript}, {"s/a", 0, api.ErrScript}, {"s/a/", 0, api.ErrScript}, {"s/a/b", 0, api.ErrScript}, {"p;s/a/b\n/", 2, api.ErrScript}, {"s/a\n/b/", 0, api.ErrScript}, {`s\a\b\`, 0, api.ErrScript}, {"s\na\nb\n", 0, api.ErrScript}, {`s/a/b\/`, 0, api.ErrScript}, {`s/a\/b/`, 0, api.ErrScript}, {"s /a/b/", 0, api.ErrScript}, {"s;a", 0, api.ErrScript},
		{"s/[/b/", 0, api.ErrSet}, {`s/\(/b/`, 0, api.ErrParen}, {`s/a\{/b/`, 0, api.ErrCount}, {`s/\2/b/`, 0, api.ErrRef}, {`s/\w/b/`, 0, api.ErrRx}, {"s/" + strings.Repeat("a", 61) + "/b/", 0, api.ErrWide},
		{`s/a/\z/`, 0, api.ErrTemp}, {`s/a/\0/`, 0, api.ErrTemp}, {`1!s,a,\q,`, 0, api.ErrTemp}, {`s/a/\\\w/`, 0, api.ErrTemp},
		// Flags: twice, 0, too great, no word.
		{"s/a/b/gg", 0, api.ErrFlag}, {"s/a/b/pp", 0, api.ErrFlag}, {"s/a/b/II", 0, api.ErrFlag}, {"s/a/b/gpg", 0, api.ErrFlag}, {"s/a/b/1p2", 0, api.ErrFlag}, {"s/a/b/1g1", 0, api.ErrFlag}, {"s/a/b/0", 0, api.ErrFlag}, {"s/a/b/000", 0, api.ErrFlag}, {"s/a/b/g0", 0, api.ErrFlag}, {"s/a/b/1000000000", 0, api.ErrFlag}, {"s/a/b/99999999999999999999", 0, api.ErrFlag}, {"s/a/b/w", 0, api.ErrFlag}, {"s/a/b/w ", 0, api.ErrFlag}, {"s/a/b/gw \t\nf", 0, api.ErrFlag}, {"p;s/a/b/ggw f", 2, api.ErrFlag}, {"s/a/b/2g0", 0, api.ErrFlag},
		// What is no flag.
		{"s/a/b/x", 0, api.ErrScript}, {"s/a/b/e", 0, api.ErrScript}, {"s/a/b/G", 0, api.ErrScript}, {"s/a/b/i", 0, api.ErrScript}, {"s/a/b/g p", 0, api.ErrScript}, {"s/a/b/ g", 0, api.ErrScript}, {"s/a/b/-1", 0, api.ErrScript}, {"s/a/b/,", 0, api.ErrScript}, {"s/a/b/gM", 0, api.ErrScript}, {"s/a/b//", 0, api.ErrScript}, {"s/a/b/{", 0, api.ErrScript}, {"s/a/b/1 2", 0, api.ErrScript},
		// Groups that are not there.
		{`s/a/\1/`, 0, api.ErrRef}, {`p;s/\(a\)/\1\2/g`, 2, api.ErrRef}, {`s/^/\9/`, 0, api.ErrRef}, {`s/\(a\)\(b\)/\3/`, 0, api.ErrRef}, {`s/a/\1/w f`, 0, api.ErrRef},
	})
	for n := range 10 {
		pattern := strings.Repeat(`\(a\)`, n)
		if n == 0 {
			pattern = "a"
		}
		for m := 1; m < 10; m++ {
			want := api.OK
			if m > n {
				want = api.ErrRef
			}
			if _, _, e := Parse("s/"+pattern+`/\`+strconv.Itoa(m)+"&/", false); e != want {
				t.Error(n, m, e)
			}
		}
	}
}

func TestP13_1Swaps(t *testing.T) {
	for s, want := range map[string][2]string{
		"y/ab/ba/": {"ab", "ba"}, "y///": {}, "y/a/a/": {"a", "a"}, "y,a,b,": {"a", "b"}, "y/abc/xxx/": {"abc", "xxx"}, `y/a\/\n\\/1234/`: {"a/\n\\", "1234"}, `y/abcd/\n\\\/x/`: {"abcd", "\n\\/x"}, `y,a\,,\,a,`: {"a,", ",a"}, `y,/\/,ab,`: {"", ""}, "yabaca": {"b", "c"}, "y a b ": {"a", "b"}, "y;a;b;;": {"a", "b"}, "y/&-[/123/": {"&-[", "123"}, "y/\xff\x00/\x00\xff/": {"\xff\x00", "\x00\xff"}, "y/a/b/ ": {"a", "b"}, "y/a/b/#c": {"a", "b"}, `ynanbn`: {"a", "b"}, `yna\nbnxyzn`: {"anb", "xyz"},
	} {
		if s == `y,/\/,ab,` {
			// Both are a /, which is there twice.
			testWrong(t, false, []wrong{{s, 0, api.ErrTrans}})
			continue
		}
		testCmds(t, map[string][]Cmd{s: {{Op: 'y', Text: want[0], Into: want[1], Pat: -1}}})
	}
	testWrong(t, false, []wrong{
		{"y", 0, api.ErrScript}, {"y/", 0, api.ErrScript}, {"y/a", 0, api.ErrScript}, {"y/a/", 0, api.ErrScript}, {"y/a/b", 0, api.ErrScript}, {"y/a\n/b/", 0, api.ErrScript}, {`y\a\b\`, 0, api.ErrScript}, {"y\na\nb\n", 0, api.ErrScript}, {"p;y/a/b\\/", 2, api.ErrScript},
		{"y/a/bc/", 0, api.ErrTrans}, {"y/ab/c/", 0, api.ErrTrans}, {"y/aa/bc/", 0, api.ErrTrans}, {`y/\z/a/`, 0, api.ErrTrans}, {`y/a/\z/`, 0, api.ErrTrans}, {"y/a\\\n/bc/", 0, api.ErrTrans}, {`y/a\n\n/abc/`, 0, api.ErrTrans}, {"1;y//a/", 0, api.ErrScript}, {"d;y//a/", 2, api.ErrTrans},
		// Both are taken first.
		{`y/\z/a`, 0, api.ErrScript}, {`y/\z/a` + "\n/", 0, api.ErrScript}, {`y/aa/`, 0, api.ErrScript},
		{"y/a/b/g", 0, api.ErrScript}, {"y/a/b/c", 0, api.ErrScript}, {"y/a/bc/x", 0, api.ErrTrans},
	})
}

func TestP13_1WrongIsFirst(t *testing.T) {
	long := strings.Repeat("a", 61)
	testWrong(t, false, []wrong{
		// From command to command.
		{"p;z;0p", 2, api.ErrScript}, {"0p;z", 0, api.ErrAddr}, {"s/a/b/gg;y/a/bc/", 0, api.ErrFlag}, {"y/a/bc/;s/a/b/gg", 0, api.ErrTrans}, {":a b;b x", 0, api.ErrLabel}, {"b x;:a b", 4, api.ErrLabel}, {"{;p\n}};z", 5, api.ErrBlock}, {"{;{;z", 4, api.ErrScript}, {"p p;}", 0, api.ErrScript},
		// Within addresses.
		{"0,1000000000p", 0, api.ErrAddr}, {"0,/ap", 0, api.ErrScript}, {"0,/[/p", 0, api.ErrSet}, {"/[/,p", 0, api.ErrSet}, {"/" + long + "/,/[/p", 0, api.ErrWide}, {"/[/,/" + long + "/p", 0, api.ErrSet}, {"1,/\\1/z", 0, api.ErrRef}, {"1,/\\1", 0, api.ErrScript}, {"1~,/[/p", 0, api.ErrAddr}, {"/[", 0, api.ErrScript},
		// Addresses are met ahead of what the command is, how many it may have ahead of what belongs to it.
		{"0z", 0, api.ErrAddr}, {"0,5s/[/b/", 0, api.ErrAddr}, {"1,2~3!z", 0, api.ErrAddr}, {"0}", 0, api.ErrAddr}, {"1}", 0, api.ErrAddr}, {"!}", 0, api.ErrAddr}, {"1:", 0, api.ErrAddr}, {"1:a b", 0, api.ErrAddr}, {"!:", 0, api.ErrAddr}, {"1,2q256", 0, api.ErrAddr}, {"1,2Q x", 0, api.ErrAddr}, {":a;1:a", 3, api.ErrAddr},
		// Within s: the pattern, the replacement, the flags, groups, what stands behind.
		{`s/[/\z/gg`, 0, api.ErrSet}, {`s/[/\z`, 0, api.ErrSet}, {"s/[", 0, api.ErrScript}, {`s/a/\z/gg`, 0, api.ErrTemp}, {`s/a/\z`, 0, api.ErrScript}, {`s/a/\z\1/`, 0, api.ErrTemp}, {`s/a/\1/gg`, 0, api.ErrFlag}, {`s/a/\1/0`, 0, api.ErrFlag}, {`s/a/\1/ z`, 0, api.ErrRef}, {`s/a/\1/z`, 0, api.ErrRef}, {"s/a/b/ggz", 0, api.ErrFlag}, {"s/a/b/zgg", 0, api.ErrScript},
		// Within y: both pieces, the first list, the second one, the map, what stands behind.
		{`y/\z/`, 0, api.ErrScript}, {`y/\z/\n`, 0, api.ErrScript}, {"y/aa/b/ z", 0, api.ErrTrans},
		// Behind all: the last block, then the first jump.
		{"b x;{;{;p", 6, api.ErrBlock}, {"b x;b y", 0, api.ErrLabel}, {"{;b x;}", 2, api.ErrLabel}, {"b x;z", 4, api.ErrScript},
	})
}

func TestP13_1IsNew(t *testing.T) {
	s := "#n\n/a/,/b*/I{s/\\(c\\)d/\\1x/gpw f\ny/ab/ba/\n}\nb e\n:e"
	want := fmt.Sprintf("%+v", mustParse(t, s, false))
	x := mustParse(t, s, false)
	for i := range x.Pats {
		for j := range x.Pats[i].Nodes {
			x.Pats[i].Nodes[j] = rx.Node{Kind: 99}
		}
		x.Pats[i] = Pat{}
	}
	for i := range x.Cmds {
		for j := range x.Cmds[i].Parts {
			x.Cmds[i].Parts[j] = subst.Part{Text: "z"}
		}
		x.Cmds[i] = Cmd{}
	}
	if got := fmt.Sprintf("%+v", mustParse(t, s, false)); got != want {
		t.Errorf("%s, and not %s", got, want)
	}
	// No two lists of one answer are one: what is put behind a list is in no other one.
	x = mustParse(t, "/a/,/a/s/a/bc&/;s/a/bc&/", false)
	told := fmt.Sprintf("%+v %+v", x.Pats[1:], x.Cmds[1:])
	x.Pats[0].Nodes[0] = rx.Node{}
	x.Cmds[0].Parts[0] = subst.Part{}
	_, _ = append(x.Pats[0].Nodes, rx.Node{Kind: 99}), append(x.Cmds[0].Parts, subst.Part{Text: "z"})
	if got := fmt.Sprintf("%+v %+v", x.Pats[1:], x.Cmds[1:]); got != told {
		t.Errorf("%s, and not %s", got, told)
	}
}

func TestP13_1EachByte(t *testing.T) {
	// Any bytes, at any place, end.
	r := rand.New(rand.NewPCG(13, 3))
	for range 50000 {
		b := make([]byte, r.IntN(20))
		for i := range b {
			b[i] = byte(r.IntN(256))
		}
		x, place, e := Parse(string(b), r.IntN(2) == 0)
		if e != api.OK && (!same(x, Script{}) || place < 0 || place >= len(b)) || e == api.OK && place != 0 {
			t.Fatalf("%q: %+v %d %v", b, x, place, e)
		}
	}
	whole := "#n\n1,/a/I!{s/\\(c\\)d/\\1x/gpw f\ny/ab/ba/;l 5\n};b e\n:e;a\\\n t\nr g"
	for i := range len(whole) {
		for b := range 256 {
			for _, s := range []string{whole[:i] + string([]byte{byte(b)}) + whole[i:], whole[:i] + string([]byte{byte(b)}) + whole[i+1:]} {
				if x, place, e := Parse(s, false); e != api.OK && (!same(x, Script{}) || place < 0 || place >= len(s)) {
					t.Fatalf("%q: %+v %d %v", s, x, place, e)
				}
			}
		}
	}
}

func TestP13_2Files(t *testing.T) {
	for s, want := range map[string][2][]string{
		"": {}, "p;d": {}, "a f\n": {}, "s/a/b/": {}, "y/a/b/": {},
		"r f": {{"f"}, nil}, "w f": {nil, {"f"}}, "s/a/b/w f": {nil, {"f"}}, "s/a/b/gpw f": {nil, {"f"}},
		"r f\nw f":                                    {{"f"}, {"f"}},
		"r f\nr f\nw g\nw g\ns/a/b/w g\n":             {{"f"}, {"g"}},
		"r c\nr a\nr b\nr a\n":                        {{"a", "b", "c"}, nil},
		"w c\ns/a/b/w a\nw b\ns/x/y/w c\n":            {nil, {"a", "b", "c"}},
		"r ab\nr a\nr B\nr a b\nr \xff\nr \x00\nr aa": {{"\x00", "B", "a", "a b", "aa", "ab", "\xff"}, nil},
		"{r x\n{w y\n}}":                              {{"x"}, {"y"}},
		"1!r x\n$,1w y\ns/a/b/\ns/a/b/p":              {{"x"}, {"y"}},
		"b e\nr x\nq\nw y\n:e\n":                      {{"x"}, {"y"}},
		"r 10\nr 9\nw 10\nw 9":                        {{"10", "9"}, {"10", "9"}},
		"a r f\\\nw g\ni\\\nw h\nc s/a/b/w i":         {},
	} {
		reads, writes := Files(mustParse(t, s, false))
		if !slices.Equal(reads, want[0]) || !slices.Equal(writes, want[1]) {
			t.Errorf("%q: %q %q", s, reads, writes)
		}
	}
}

func TestP13_2FilesOfOthers(t *testing.T) {
	// Also scripts that are not read have names, and only these commands do.
	x := Script{Cmds: []Cmd{{Op: 'r', Text: "b"}, {Op: 'r', Text: "a"}, {Op: 'w', Text: "d"}, {Op: 's', Text: "c", Pat: 7}, {Op: 's', Pat: -1}}}
	for i := range 256 {
		if op := byte(i); strings.IndexByte("rws", op) < 0 {
			x.Cmds = append(x.Cmds, Cmd{Op: op, Text: "no", Into: "no"})
		}
	}
	told := fmt.Sprintf("%+v", x)
	for range 20 {
		reads, writes := Files(x)
		if !slices.Equal(reads, []string{"a", "b"}) || !slices.Equal(writes, []string{"c", "d"}) {
			t.Errorf("%q %q", reads, writes)
		}
		reads[0], writes[0] = "x", "x"
		_ = append(reads, "y")
	}
	if got := fmt.Sprintf("%+v", x); got != told {
		t.Errorf("%s, and not %s", got, told)
	}
	var many []Cmd
	for i := range 1000 {
		many = append(many, Cmd{Op: "rw"[i%2], Text: strconv.Itoa(i * 7 % 500)})
	}
	reads, writes := Files(Script{Cmds: many})
	if len(reads) != 250 || len(writes) != 250 || !slices.IsSorted(reads) || !slices.IsSorted(writes) {
		t.Error(len(reads), len(writes))
	}
	if reads, writes = Files(Script{}); len(reads) != 0 || len(writes) != 0 {
		t.Errorf("%q %q", reads, writes)
	}
}

// lines are commands, each of which may stand in a line alone.
func lines() []string {
	return []string{"p", "1,2p", "$!d", "/a/,/b/I{", "}", "{", "s/x/y/gp", "s/a/b/w f", "y/ab/ba/", "b e", "t", "T e", ":e", "a\\\nt", "i  t", "c t\\\nu", "r f", "w g", "l 7", "q 5", "=", "0,/a/N", "2~3,+4!x"}
}

func TestP13_3BetweenCommands(t *testing.T) {
	r := rand.New(rand.NewPCG(13, 4))
	l := lines()
	between := []string{" ", "\t", "\n", ";", "#\n", "# p;d }\n", "\n\n", " ;\t;", "  #n\n"}
	right := 0
	for range 20000 {
		// The first line is none, so that what is put ahead of the others can't be #n.
		bare, full := "\n", "\n"
		for range r.IntN(8) {
			line := l[r.IntN(len(l))] + "\n"
			bare += line
			for range r.IntN(4) {
				full += between[r.IntN(len(between))]
			}
			full += line
		}
		for range r.IntN(4) {
			full += between[r.IntN(len(between))]
		}
		want, _, wantE := Parse(bare, false)
		got, _, e := Parse(full, false)
		if !same(got, want) || e != wantE {
			t.Fatalf("%q: %+v %v, and not %+v %v of %q", full, got, e, want, wantE, bare)
		}
		if e == api.OK {
			right++
		}
	}
	if right < 1000 {
		t.Error(right)
	}
	// Where a ; may stand, a line may end, and but for labels, of which it is a part, a remark may stand ahead of that.
	for _, s := range []string{"p;d", "{p;d}", "1p;{s/a/b/;x}", "y/a/b/;l;q", "b a;:a;p", ":a;t a;b"} {
		ends := []string{"\n", " ;\t; ", "\n\t;; \n"}
		if !strings.Contains(s, "a;") {
			ends = append(ends, "#;\n", " #}\n\n")
		}
		for _, end := range ends {
			if other := strings.ReplaceAll(s, ";", end); !same(mustParse(t, s, false), mustParse(t, other, false)) {
				t.Errorf("%q: %q", s, other)
			}
		}
	}
}

// testPlaces holds all places that x tells against the commands that are there.
func testPlaces(t *testing.T, s string, x Script) {
	t.Helper()
	pats := 0
	look := func(a addr.Addr) {
		if a.Kind == addr.Rx {
			if a.N != pats {
				t.Errorf("%q: %+v", s, a)
			}
			pats++
		}
	}
	for i, c := range x.Cmds {
		look(c.R.A)
		look(c.R.B)
		switch c.Op {
		case '{':
			if c.To <= i || c.To >= len(x.Cmds) || x.Cmds[c.To].Op != '}' || x.Cmds[c.To].To != i {
				t.Errorf("%q: %d %+v", s, i, c)
			}
		case '}':
			if c.To < 0 || c.To >= i || x.Cmds[c.To].Op != '{' || x.Cmds[c.To].To != i {
				t.Errorf("%q: %d %+v", s, i, c)
			}
		case 'b', 't', 'T':
			// As many as there are is the end.
			if c.To < 0 || c.To > len(x.Cmds) {
				t.Errorf("%q: %d %+v", s, i, c)
			}
		case 's':
			look(addr.Addr{Kind: addr.Rx, N: c.Pat})
		}
		if !addr.May(c.R) || c.Op == ':' || c.Op != 's' && c.Pat != -1 || strings.IndexByte("{}btT", c.Op) < 0 && c.To != 0 {
			t.Errorf("%q: %d %+v", s, i, c)
		}
	}
	if pats != len(x.Pats) {
		t.Errorf("%q: %d", s, pats)
	}
	for _, p := range x.Pats {
		if !rx.May(p.Nodes) {
			t.Errorf("%q: %+v", s, p)
		}
	}
}

func TestP13_3Places(t *testing.T) {
	r := rand.New(rand.NewPCG(13, 5))
	l := lines()
	right := 0
	for range 20000 {
		var s string
		for range r.IntN(10) {
			s += l[r.IntN(len(l))] + "\n"
		}
		s += strings.Repeat("}", max(0, strings.Count(s, "{")-strings.Count(s, "}")))
		if r.IntN(2) == 0 && !strings.Contains(s, ":e") {
			s += "\n:e"
		}
		x, _, e := Parse(s, r.IntN(2) == 0)
		if e != api.OK {
			continue
		}
		right++
		testPlaces(t, s, x)
	}
	if right < 1000 {
		t.Error(right)
	}
}
