package show

import (
	"fmt"
	"math"
	"slices"
	"testing"

	"calender/addr"
	"calender/api"
	"calender/bre"
	"calender/ere"
	"calender/rx"
	"calender/script"
	"calender/set"
	"calender/subst"
)

// textOf tells all of x; lists without elements and nil lists are told alike.
func textOf(x script.Script) string { return fmt.Sprintf("%+v", x) }

// mustParse is the script that s has to tell.
func mustParse(t *testing.T, s string, ext bool) script.Script {
	t.Helper()
	x, _, e := script.Parse(s, ext)
	if e != api.OK {
		t.Fatalf("%q: %v", s, e)
	}
	return x
}

// pat is a pattern that s tells.
func pat(t *testing.T, s string, ext bool) script.Pat {
	t.Helper()
	parse := bre.Parse
	if ext {
		parse = ere.Parse
	}
	l, _, e := parse(s)
	if e != api.OK {
		t.Fatalf("%q: %v", s, e)
	}
	return script.Pat{Nodes: l}
}

// noPatterns are lists of nodes that are no patterns.
func noPatterns() [][]rx.Node {
	return [][]rx.Node{nil, {}, {{Kind: 99}}, {{Kind: -1}}, {{Kind: rx.Bytes}}, {{Kind: rx.Begin}, {Kind: rx.End}}, {{Kind: rx.Cat, A: 0, B: 5}}, {{Kind: rx.Ref, N: 1}}, slices.Repeat([]rx.Node{{Kind: rx.Begin}}, 130)}
}

// testCommand holds the text of c, alone in a script with these patterns, against what it has to be.
func testCommand(t *testing.T, c script.Cmd, pats []script.Pat, ext bool, want string) {
	t.Helper()
	x := script.Script{Pats: pats, Cmds: []script.Cmd{c}}
	if got, e := Command(x, 0, ext); got != want || e != api.OK {
		t.Errorf("%+v: %q %v, and not %q", x, got, e, want)
	}
}

// testNoCommand holds the text of c, alone in a script with these patterns, against there being none.
func testNoCommand(t *testing.T, c script.Cmd, pats []script.Pat, ext bool) {
	t.Helper()
	x := script.Script{Pats: pats, Cmds: []script.Cmd{c}}
	if got, e := Command(x, 0, ext); got != "" || e != api.ErrArg {
		t.Errorf("%+v: %q %v", x, got, e)
	}
	if got, e := Print(x, ext); got != "" || e != api.ErrArg {
		t.Errorf("%+v: %q %v", x, got, e)
	}
}

// addresses are such as have a text, and that.
func addresses() map[addr.Addr]string {
	return map[addr.Addr]string{
		{}:                                  "",
		{N: 5, M: 6}:                        "",
		{Kind: addr.Number}:                 "0",
		{Kind: 1, N: 7, M: 8}:               "7",
		{Kind: addr.Number, N: -12}:         "-12",
		{Kind: addr.Number, N: math.MaxInt}: "9223372036854775807",
		{Kind: addr.Number, N: math.MinInt}: "-9223372036854775808",
		{Kind: addr.Number, N: api.MaxNumber + 1}:      "1000000000",
		{Kind: addr.Last}:                              "$",
		{Kind: addr.Last, N: 3, M: -4}:                 "$",
		{Kind: addr.Step}:                              "0~0",
		{Kind: addr.Step, N: 10, M: 3}:                 "10~3",
		{Kind: addr.Step, N: -10, M: -3}:               "-10~-3",
		{Kind: addr.Step, M: math.MinInt}:              "0~-9223372036854775808",
		{Kind: addr.Plus}:                              "+0",
		{Kind: addr.Plus, N: 44, M: 1}:                 "+44",
		{Kind: addr.Plus, N: -1}:                       "+-1",
		{Kind: addr.Round}:                             "~0",
		{Kind: addr.Round, N: 8, M: -1}:                "~8",
		{Kind: addr.Round, N: -8}:                      "~-8",
		{Kind: addr.Rx}:                                "/a*b/",
		{Kind: addr.Rx, N: 1}:                          "/c\\/d/I",
		{Kind: addr.Rx, N: 2, M: 1}:                    "//",
		{Kind: addr.Rx, N: 2, M: math.MinInt}:          "//",
		{Kind: addr.Number, N: 0, M: math.MaxInt}:      "0",
		{Kind: addr.Every, N: math.MinInt, M: 1}:       "",
		{Kind: addr.Plus, N: math.MaxInt}:              "+9223372036854775807",
		{Kind: addr.Round, N: math.MinInt, M: 1 << 40}: "~-9223372036854775808",
	}
}

// threePats are patterns, of which one is Fold, and one Empty.
func threePats(t *testing.T) []script.Pat {
	l := []script.Pat{pat(t, "a*b", false), pat(t, "c/d", false), pat(t, "", false)}
	l[1].Fold = true
	return l
}

func TestP14_1Addresses(t *testing.T) {
	pats := threePats(t)
	for a, toldA := range addresses() {
		for _, ext := range []bool{false, true} {
			testCommand(t, script.Cmd{R: addr.Range{A: a}, Op: 'p'}, pats, ext, toldA+"p")
			testCommand(t, script.Cmd{R: addr.Range{A: a, Not: true}, Op: 'p'}, pats, ext, toldA+"!p")
		}
		for b, toldB := range addresses() {
			want := toldA + "," + toldB
			if b.Kind == addr.Every {
				want = toldA
			}
			testCommand(t, script.Cmd{R: addr.Range{A: a, B: b}, Op: 'd'}, pats, false, want+"d")
			testCommand(t, script.Cmd{R: addr.Range{A: a, B: b, Not: true}, Op: 'd'}, pats, true, want+"!d")
		}
	}
}

func TestP14_1AddressesOfNone(t *testing.T) {
	pats := threePats(t)
	for _, a := range []addr.Addr{{Kind: -1}, {Kind: 7}, {Kind: 7, N: 1}, {Kind: math.MinInt}, {Kind: math.MaxInt}, {Kind: addr.Rx, N: 3}, {Kind: addr.Rx, N: -1}, {Kind: addr.Rx, N: math.MaxInt}, {Kind: addr.Rx, N: math.MinInt}} {
		testNoCommand(t, script.Cmd{R: addr.Range{A: a}, Op: 'p', Pat: -1}, pats, false)
		testNoCommand(t, script.Cmd{R: addr.Range{A: a, Not: true}, Op: 'p', Pat: -1}, pats, true)
		testNoCommand(t, script.Cmd{R: addr.Range{B: a}, Op: 'p', Pat: -1}, pats, false)
		testNoCommand(t, script.Cmd{R: addr.Range{A: addr.Addr{Kind: addr.Number, N: 1}, B: a}, Op: 'p', Pat: -1}, pats, true)
	}
	testNoCommand(t, script.Cmd{R: addr.Range{A: addr.Addr{Kind: addr.Rx}}, Op: 'p', Pat: -1}, nil, false)
}

func TestP14_1Patterns(t *testing.T) {
	for s, wants := range map[string][2]string{
		// Basic ones, and how they are told as basic and as extended ones.
		"":               {"", ""},
		"a":              {"a", "a"},
		"/":              {`\/`, `\/`},
		"a/b//":          {`a\/b\/\/`, `a\/b\/\/`},
		"[/]":            {`\/`, `\/`},
		"[a/]":           {`[\/a]`, `[\/a]`},
		`[/\]`:           {`[\/\]`, `[\/\]`},
		`\\/`:            {`\\\/`, `\\\/`},
		`a\n`:            {`a\n`, `a\n`},
		"^a*$":           {"^a*$", "^a*$"},
		`\(ab\)\{2,3\}+`: {`\(ab\)\{2,3\}+`, `(ab){2,3}\+`},
		"a|b":            {"a|b", `a\|b`},
		"[b-d]x":         {"[b-d]x", "[b-d]x"},
		`a\{1,\}`:        {`a\{1,\}`, "a+"},
	} {
		for i, ext := range []bool{false, true} {
			for _, fold := range []bool{false, true} {
				p := pat(t, s, false)
				p.Fold = fold
				letter := map[bool]string{true: "I"}[fold]
				testCommand(t, script.Cmd{R: addr.Range{A: addr.Addr{Kind: addr.Rx}}, Op: 'p'}, []script.Pat{p}, ext, "/"+wants[i]+"/"+letter+"p")
				testCommand(t, script.Cmd{R: addr.Range{A: addr.Addr{Kind: addr.Last}, B: addr.Addr{Kind: addr.Rx, N: 1}}, Op: 'p'}, []script.Pat{{}, p}, ext, "$,/"+wants[i]+"/"+letter+"p")
				testCommand(t, script.Cmd{Op: 's', N: 1, Pat: 1}, []script.Pat{{}, p}, ext, "s/"+wants[i]+"//"+letter)
			}
		}
	}
	extended := pat(t, `(a|b/)\n?|c{2}`, true)
	testCommand(t, script.Cmd{R: addr.Range{A: addr.Addr{Kind: addr.Rx}}, Op: 'p'}, []script.Pat{extended}, true, `/(a|b\/)\n?|c{2}/p`)
	testCommand(t, script.Cmd{Op: 's', N: 1}, []script.Pat{extended}, true, `s/(a|b\/)\n?|c{2}//`)
}

func TestP14_1PatternsOfNone(t *testing.T) {
	testBoth := func(p script.Pat, ext bool) {
		t.Helper()
		testNoCommand(t, script.Cmd{R: addr.Range{A: addr.Addr{Kind: addr.Rx}}, Op: 'p', Pat: -1}, []script.Pat{p}, ext)
		testNoCommand(t, script.Cmd{R: addr.Range{A: addr.Addr{Kind: addr.Last}, B: addr.Addr{Kind: addr.Rx}}, Op: 'p', Pat: -1}, []script.Pat{p}, ext)
		testNoCommand(t, script.Cmd{Op: 's', N: 1}, []script.Pat{p}, ext)
	}
	for _, l := range noPatterns() {
		testBoth(script.Pat{Nodes: l}, false)
		testBoth(script.Pat{Nodes: l, Fold: true}, true)
	}
	// Not each pattern is a basic one, nor each an extended one.
	testBoth(pat(t, "a|b", true), false)
	testBoth(pat(t, "(a|b)c", true), false)
	testBoth(pat(t, `\(a\)\1`, false), true)
}

func TestP14_1Ops(t *testing.T) {
	// Of each byte it is told that it is one, with what it names, or nothing, behind it.
	behind := map[byte]string{'a': "\\\nt", 'i': "\\\nt", 'c': "\\\nt", 'b': "L5", 't': "L5", 'T': "L5", 'l': " 7", 'q': " 7", 'Q': " 7", 'r': " t\n", 'w': " t\n", 's': "/a*b/x&/gp7w t\n", 'y': "/t\\n/u\\//"}
	pats := threePats(t)
	for op := range 256 {
		c := script.Cmd{Op: byte(op), Text: "t\n", Into: "u/", N: 7, To: 5, Parts: []subst.Part{{Text: "x", Group: -1}, {}}, All: true, Print: true}
		testCommand(t, c, pats, false, string([]byte{c.Op})+behind[c.Op])
		c.R.A = addr.Addr{Kind: addr.Number, N: 3}
		testCommand(t, c, pats, true, "3"+string([]byte{c.Op})+behind[c.Op])
	}
}

func TestP14_1Texts(t *testing.T) {
	for _, op := range []byte("aic") {
		head := string([]byte{op}) + "\\\n"
		for text, want := range map[string]string{"\n": "", "t\n": "t", "two words; }\n": "two words; }", " t\n": "\\ t", "\tt\n": "\\\tt", "t \n": "t ", "a\nb\n": "a\\\nb", "\n\n": "\\\n", "\\\n": `\\`, "a\\n/\n": `a\\n/`, "\nx\n": "\\\nx", "\xff\x00\n": "\xff\x00"} {
			testCommand(t, script.Cmd{Op: op, Text: text}, nil, false, head+want)
		}
		for _, text := range []string{"", "t", "\nt", "\\"} {
			testNoCommand(t, script.Cmd{Op: op, Text: text, Pat: -1}, nil, true)
		}
	}
}

func TestP14_1Labels(t *testing.T) {
	for _, op := range []byte("btT") {
		for to, want := range map[int]string{0: "L0", 1: "L1", 2: "L2", 3: "", 4: "L4", -1: "L-1", 120: "L120", math.MaxInt: "L9223372036854775807"} {
			x := script.Script{Cmds: []script.Cmd{{Op: 'p'}, {Op: op, To: to}, {Op: 'p'}}}
			if got, e := Command(x, 1, false); got != string([]byte{op})+want || e != api.OK {
				t.Errorf("%c %d: %q %v", op, to, got, e)
			}
		}
	}
	// Of others it is not told where they go on.
	for _, op := range []byte("{}pdx=") {
		testCommand(t, script.Cmd{Op: op, To: 9, N: 5, Text: "t", Into: "u", All: true, Print: true}, nil, false, string([]byte{op}))
	}
}

func TestP14_1Numbers(t *testing.T) {
	for n, wants := range map[int][2]string{-1: {"l", "q -1"}, 0: {"l 0", "q"}, 1: {"l 1", "q 1"}, -2: {"l -2", "q -2"}, 255: {"l 255", "q 255"}, math.MaxInt: {"l 9223372036854775807", "q 9223372036854775807"}} {
		testCommand(t, script.Cmd{Op: 'l', N: n}, nil, false, wants[0])
		testCommand(t, script.Cmd{Op: 'q', N: n}, nil, false, wants[1])
		testCommand(t, script.Cmd{Op: 'Q', N: n}, nil, true, "Q"+wants[1][1:])
	}
}

func TestP14_1Names(t *testing.T) {
	for _, name := range []string{"", "f", "in file", " f ", "a/b", "f\n", `\`, "f;p}"} {
		testCommand(t, script.Cmd{Op: 'r', Text: name}, nil, false, "r "+name)
		testCommand(t, script.Cmd{Op: 'w', Text: name, N: 5}, nil, true, "w "+name)
	}
}

func TestP14_1Replacements(t *testing.T) {
	bytes := func(s string) subst.Part { return subst.Part{Text: s, Group: -1} }
	group := func(n int) subst.Part { return subst.Part{Group: n} }
	pats := threePats(t)
	for want, c := range map[string]script.Cmd{
		"s/a*b//":                {Op: 's', N: 1},
		"s/a*b//0":               {Op: 's'},
		"s/a*b//-5":              {Op: 's', N: -5},
		"s/a*b//12":              {Op: 's', N: 12},
		"s/a*b//g":               {Op: 's', N: 1, All: true},
		"s/a*b//p":               {Op: 's', N: 1, Print: true},
		"s/a*b//gp2":             {Op: 's', N: 2, All: true, Print: true},
		"s/a*b//w f":             {Op: 's', N: 1, Text: "f"},
		"s/a*b//3w  f ":          {Op: 's', N: 3, Text: " f "},
		`s/c\/d//I`:              {Op: 's', N: 1, Pat: 1},
		`s/c\/d/&/gp2Iw f/g`:     {Op: 's', N: 2, Pat: 1, Parts: []subst.Part{group(0)}, All: true, Print: true, Text: "f/g"},
		"s///":                   {Op: 's', N: 1, Pat: 2},
		`s/a*b/x\/y/`:            {Op: 's', N: 1, Parts: []subst.Part{bytes("x/y")}},
		`s/a*b/\\\/\/\n\&\9&/`:   {Op: 's', N: 1, Parts: []subst.Part{bytes("\\//\n&"), group(9), group(0)}},
		`s/a*b/\1a\2/`:           {Op: 's', N: 1, Parts: []subst.Part{group(1), bytes("a"), group(2)}},
		"2,$!s/a*b/\xff\x00 ;}/": {R: addr.Range{A: addr.Addr{Kind: addr.Number, N: 2}, B: addr.Addr{Kind: addr.Last}, Not: true}, Op: 's', N: 1, Parts: []subst.Part{bytes("\xff\x00 ;}")}, Into: "i", To: 7},
	} {
		testCommand(t, c, pats, false, want)
		testCommand(t, c, pats, true, want)
	}
	for _, l := range [][]subst.Part{{bytes("")}, {bytes("a"), bytes("b")}, {group(10)}, {group(-2)}, {{Text: "a"}}, {{Text: "a", Group: 3}}} {
		testNoCommand(t, script.Cmd{Op: 's', N: 1, Parts: l}, pats, false)
	}
	for _, n := range []int{-1, 3, math.MaxInt, math.MinInt} {
		testNoCommand(t, script.Cmd{Op: 's', N: 1, Pat: n}, pats, true)
	}
	// Nobody else's parts, or number of a pattern, are looked at.
	testCommand(t, script.Cmd{Op: 'p', Pat: 99, Parts: []subst.Part{group(10)}}, pats, false, "p")
}

func TestP14_1Swaps(t *testing.T) {
	for want, c := range map[string]script.Cmd{
		"y///":                    {Op: 'y'},
		"y/a/b/":                  {Op: 'y', Text: "a", Into: "b"},
		"y/aa/b/":                 {Op: 'y', Text: "aa", Into: "b"},
		`y/a\/b/\\\n\//`:          {Op: 'y', Text: "a/b", Into: "\\\n/", N: 5, Pat: -1},
		`y/\\\//&\\n/`:            {Op: 'y', Text: `\/`, Into: `&\n`},
		"$y/ \t;}\xff\x00/#'\"./": {R: addr.Range{A: addr.Addr{Kind: addr.Last}}, Op: 'y', Text: " \t;}\xff\x00", Into: "#'\"."},
	} {
		testCommand(t, c, nil, false, want)
		testCommand(t, c, nil, true, want)
	}
}

func TestP14_1NoCommand(t *testing.T) {
	for _, s := range []string{"", "p", "p;d;x"} {
		x := mustParse(t, s, false)
		for _, i := range []int{-1, len(x.Cmds), len(x.Cmds) + 1, math.MinInt, math.MaxInt} {
			if got, e := Command(x, i, false); got != "" || e != api.ErrArg {
				t.Errorf("%q %d: %q %v", s, i, got, e)
			}
		}
	}
	// What is wrong with one says nothing of another one.
	x := script.Script{Cmds: []script.Cmd{{Op: 'a'}, {Op: 'p'}, {R: addr.Range{A: addr.Addr{Kind: 9}}, Op: 'd'}}}
	for i, want := range []string{"", "p", ""} {
		if got, e := Command(x, i, false); got != want || (e == api.OK) != (want != "") {
			t.Errorf("%d: %q %v", i, got, e)
		}
	}
}

func TestP14_2Example(t *testing.T) {
	if got, e := Print(mustParse(t, "p;b", false), false); got != "p\nb\n" || e != api.OK {
		t.Errorf("%q %v", got, e)
	}
}

func TestP14_2Scripts(t *testing.T) {
	for s, want := range map[string]string{
		"": "", "\n;# nothing": "", "#n": "#n\n", "#n\n": "#n\n", "#n\np": "#n\np\n", "#no\np": "p\n", ";#n\np": "p\n",
		"2,4!{p;d}":               "2,4!{\np\nd\n}\n",
		"{};{{}}":                 "{\n}\n{\n{\n}\n}\n",
		" 007 , $ ! = # last":     "7,$!=\n",
		"1~2x;0~4,+5g;9,~3G":      "1~2x\n0~4,+5g\n9,~3G\n",
		`\,a\,b,I,\xc/dx h`:       "/a,b/I,/c\\/d/h\n",
		"0,//I!N":                 "0,//I!N\n",
		"a  t;p":                  "a\\\nt;p\n",
		"i\\\n t\\\nu\nc\\ \\v":   "i\\\n\\ t\\\nu\nc\\\n\\ v\n",
		"a\\\n\n":                 "a\\\n\n",
		"b;t ;T":                  "b\nt\nT\n",
		":x;b x":                  ":L0\nbL0\n",
		"bx\n:x":                  "b\n",
		"bx;:x;p":                 "bL1\n:L1\np\n",
		":a;:b;p;ta;Tb;b":         ":L0\np\ntL0\nTL0\nb\n",
		"p;:a;:b\n:c":             "p\n",
		"p;{:a;d;ta};Ta":          "p\n{\n:L2\nd\ntL2\n}\nTL2\n",
		"{p;ba\n:a\n}":            "{\np\nbL3\n:L3\n}\n",
		"l;l 0;l1;l 77":           "l\nl 0\nl 1\nl 77\n",
		"q;q0;Q 3;Q255":           "q\nq\nQ 3\nQ 255\n",
		"r  f ; }  \nw\tg":        "r f ; }\nw g\n",
		"s,a,b,":                  "s/a/b/\n",
		"s/a/b/1":                 "s/a/b/\n",
		"s;a/b;/&\\;\\n;2pgw f":   `s/a\/b/\/&;\n/gp2w f` + "\n",
		"s//\\\n\\&\\\\/I":        `s//\n\&\\/I` + "\n",
		"y,a\\,/\\n,\\\\///,":     `y/a,\/\n/\\\/\/\//` + "\n",
		"$!N;P;D":                 "$!N\nP\nD\n",
		"=;d;D;g;G;h;H;n;N;p;P;x": "=\nd\nD\ng\nG\nh\nH\nn\nN\np\nP\nx\n",
	} {
		for _, ext := range []bool{false, true} {
			if got, e := Print(mustParse(t, s, ext), ext); got != want || e != api.OK {
				t.Errorf("%q %v: %q %v, and not %q", s, ext, got, e, want)
			}
		}
	}
}

func TestP14_2BasicAndExtended(t *testing.T) {
	for _, x := range []struct {
		s    string
		ext  bool
		want string
	}{
		{`/\(a\)b\{2\}/s/\(c*\)\1/\1/`, false, `/\(a\)b\{2\}/s/\(c*\)\1/\1/` + "\n"},
		{"/(a|b)+/s/(c)?|d/\\1/2", true, `/(a|b)+/s/(c)?|d/\1/2` + "\n"},
		{`s/\(a\{1,\}\)/\1/`, false, `s/\(a\{1,\}\)/\1/` + "\n"},
		{"s/(a{1,})/\\1/", true, `s/(a+)/\1/` + "\n"},
		{"/a+b/p", false, "/a+b/p\n"},
		{"/a+b/p", true, "/a+b/p\n"},
	} {
		if got, e := Print(mustParse(t, x.s, x.ext), x.ext); got != x.want || e != api.OK {
			t.Errorf("%q: %q %v, and not %q", x.s, got, e, x.want)
		}
	}
	// What is a pattern of the other kind, too, is told as such; what is none of it has no text.
	for s, want := range map[string]string{"/a+b/p": `/a\+b/p` + "\n", `s/\(a\)*/\1/`: `s/(a)*/\1/` + "\n", `s/\(a\)\1/\1/`: ""} {
		if got, e := Print(mustParse(t, s, false), true); got != want || (e == api.OK) != (want != "") || e != api.OK && e != api.ErrArg {
			t.Errorf("%q: %q %v", s, got, e)
		}
	}
	if got, e := Print(mustParse(t, "/a|b/p", true), false); got != "" || e != api.ErrArg {
		t.Errorf("%q %v", got, e)
	}
}

func TestP14_2OfNone(t *testing.T) {
	s := "#n\n/a/,/b*/I!{s/\\(c\\)d/\\1x/gp2w f\ny/ab/ba/\n}\nb e\nl;q;r f\np\n:e;a t\n"
	changes := map[string]func(x *script.Script){
		"no commands":                 func(x *script.Script) { x.Cmds = nil },
		"commands less":               func(x *script.Script) { x.Cmds = x.Cmds[:2] },
		"no patterns":                 func(x *script.Script) { x.Pats = nil },
		"a pattern more":              func(x *script.Script) { x.Pats = append(x.Pats, x.Pats[0]) },
		"a pattern that is none":      func(x *script.Script) { x.Pats[0].Nodes = nil },
		"a pattern without groups":    func(x *script.Script) { x.Pats[2].Nodes = []rx.Node{{Kind: rx.Bytes, Set: set.Of("a")}} },
		"patterns in another order":   func(x *script.Script) { x.Cmds[0].R.A.N, x.Cmds[0].R.B.N = 1, 0 },
		"the same pattern twice":      func(x *script.Script) { x.Cmds[0].R.B.N = 0 },
		"a kind that is none":         func(x *script.Script) { x.Cmds[0].R.A.Kind = 7 },
		"a second one without first":  func(x *script.Script) { x.Cmds[0].R.A = addr.Addr{} },
		"a number that is none":       func(x *script.Script) { x.Cmds[0].R.B = addr.Addr{Kind: addr.Number, N: -1} },
		"a number of no kind":         func(x *script.Script) { x.Cmds[5].R.A.N = 1 },
		"two numbers":                 func(x *script.Script) { x.Cmds[5].R.A = addr.Addr{Kind: addr.Number, N: 1, M: 1} },
		"line 0":                      func(x *script.Script) { x.Cmds[5].R.A = addr.Addr{Kind: addr.Number} },
		"too many addresses":          func(x *script.Script) { x.Cmds[6].R = x.Cmds[0].R },
		"no address where none may":   func(x *script.Script) { x.Cmds[3].R.Not = true },
		"a block that does not end":   func(x *script.Script) { x.Cmds[3].Op = 'p' },
		"a block that ends elsewhere": func(x *script.Script) { x.Cmds[0].To++ },
		"an end of no block":          func(x *script.Script) { x.Cmds[3].To++ },
		"no command":                  func(x *script.Script) { x.Cmds[5].Op = 'z' },
		"a label":                     func(x *script.Script) { x.Cmds[5].Op = ':' },
		"an end of a line":            func(x *script.Script) { x.Cmds[5].Op = '\n' },
		"a remark":                    func(x *script.Script) { x.Cmds[5].Op = '#' },
		"a place ahead of all":        func(x *script.Script) { x.Cmds[4].To = -1 },
		"a place behind all":          func(x *script.Script) { x.Cmds[4].To = len(x.Cmds) + 1 },
		"a place that is not named":   func(x *script.Script) { x.Cmds[5].To = 1 },
		"a text that is not named":    func(x *script.Script) { x.Cmds[5].Text = "t" },
		"an into that is not named":   func(x *script.Script) { x.Cmds[1].Into = "t" },
		"a number that is not named":  func(x *script.Script) { x.Cmds[0].N = 1 },
		"a pattern that is not named": func(x *script.Script) { x.Cmds[5].Pat = 0 },
		"parts that are not named":    func(x *script.Script) { x.Cmds[5].Parts = []subst.Part{{}} },
		"a g that is not named":       func(x *script.Script) { x.Cmds[5].All = true },
		"a p that is not named":       func(x *script.Script) { x.Cmds[5].Print = true },
		"a name with a blank":         func(x *script.Script) { x.Cmds[7].Text = "f " },
		"no name":                     func(x *script.Script) { x.Cmds[7].Text = "" },
		"a name of two lines":         func(x *script.Script) { x.Cmds[7].Text = "f\nd" },
		"a width that is none":        func(x *script.Script) { x.Cmds[5].N = -2 },
		"a code that is too great":    func(x *script.Script) { x.Cmds[6].N = 256 },
		"a group that is not there":   func(x *script.Script) { x.Cmds[1].Parts[0].Group = 2 },
		"parts that are none":         func(x *script.Script) { x.Cmds[1].Parts[0].Group = 11 },
		"the find ahead of the first": func(x *script.Script) { x.Cmds[1].N = 0 },
		"two lists, not as long":      func(x *script.Script) { x.Cmds[2].Text = "a" },
		"a byte twice":                func(x *script.Script) { x.Cmds[2].Text = "aa" },
		"a text without an end":       func(x *script.Script) { x.Cmds[9].Text = "t" },
	}
	for name, change := range changes {
		x := mustParse(t, s, false)
		change(&x)
		if got, e := Print(x, false); got != "" || e != api.ErrArg {
			t.Errorf("%s: %q %v", name, got, e)
		}
	}
	if _, e := Print(mustParse(t, s, false), false); e != api.OK {
		t.Error(e)
	}
}

func TestP14_2ListsWithoutElements(t *testing.T) {
	// Lists without elements and nil lists are alike.
	for _, s := range []string{"", "p", "s/a//", "s///"} {
		x := mustParse(t, s, false)
		want, _ := Print(x, false)
		for i := range x.Cmds {
			x.Cmds[i].Parts = append([]subst.Part{}, x.Cmds[i].Parts...)
		}
		x.Cmds = append([]script.Cmd{}, x.Cmds...)
		x.Pats = append([]script.Pat{}, x.Pats...)
		if got, e := Print(x, false); got != want || e != api.OK {
			t.Errorf("%q: %q %v", s, got, e)
		}
	}
	x := mustParse(t, "s/a//", false)
	x.Cmds[0].Parts = nil
	if got, e := Print(x, false); got != "s/a//\n" || e != api.OK {
		t.Errorf("%q %v", got, e)
	}
}

func TestP14_2Wide(t *testing.T) {
	// A text that is too long to be read is none.
	for n, want := range map[int]api.Errno{2000: api.OK, 2001: api.ErrArg} {
		x := mustParse(t, "p", false)
		x.Cmds = slices.Repeat(x.Cmds, n)
		if got, e := Print(x, false); len(got) != map[bool]int{true: 4000}[want == api.OK] || e != want {
			t.Errorf("%d: %d %v", n, len(got), e)
		}
		if got, e := Command(x, n-1, false); got != "p" || e != api.OK {
			t.Errorf("%d: %q %v", n, got, e)
		}
	}
	x := mustParse(t, "//p", false)
	x.Pats = slices.Repeat(x.Pats, 1000)
	if got, e := Command(x, 0, false); got != "//p" || e != api.OK {
		t.Errorf("%q %v", got, e)
	}
	x.Cmds[0].R.A.N = 999
	if got, e := Command(x, 0, false); got != "//p" || e != api.OK {
		t.Errorf("%q %v", got, e)
	}
}

func TestP14_1NothingIsChanged(t *testing.T) {
	s := "#n\n/a/,/b*/I!{s/\\(c\\)d/\\1x/gp2w f\ny/ab/ba/\n}\nb e\nl;q;r f\np\n:e;a t\n"
	x := mustParse(t, s, false)
	want := textOf(x)
	first, _ := Print(x, false)
	for i := range x.Cmds {
		Command(x, i, i%2 == 0)
	}
	Print(x, true)
	if again, e := Print(x, false); again != first || e != api.OK || textOf(x) != want {
		t.Errorf("%q %v %s", again, e, textOf(x))
	}
}
