package show

import (
	"fmt"
	"math/rand/v2"
	"slices"
	"strings"
	"testing"

	"calender/addr"
	"calender/api"
	"calender/bre"
	"calender/ere"
	"calender/piece"
	"calender/rx"
	"calender/script"
	"calender/subst"
	"calender/trans"
)

// words tells scripts as the chapter's words do, one behind the other; what is wrong is a panic.
type words struct {
	x   script.Script
	ext bool
}

// right is s, unless e is an error.
func right(s string, e api.Errno) string {
	if e != api.OK {
		panic(e)
	}
	return s
}

func wrongIf(is bool) {
	if is {
		panic(api.ErrArg)
	}
}

// iff is s, if it is so.
func iff(is bool, s string) string { return map[bool]string{true: s}[is] }

func (o words) pattern(n int) (string, string) {
	wrongIf(n < 0 || n >= len(o.x.Pats))
	p := o.x.Pats[n]
	told := map[bool]func([]rx.Node) (string, api.Errno){false: bre.Print, true: ere.Print}[o.ext]
	return "/" + right(piece.Give(right(told(p.Nodes)), '/')) + "/", iff(p.Fold, "I")
}

func (o words) address(a addr.Addr) string {
	wrongIf(a.Kind < 0 || a.Kind > 6)
	if a.Kind == addr.Rx {
		p, i := o.pattern(a.N)
		return p + i
	}
	s := []string{"", "%d", "$", "%d~%d", "", "+%d", "~%d"}[a.Kind]
	return fmt.Sprintf(s, []any{a.N, a.M}[:strings.Count(s, "%")]...)
}

func (o words) command(i int) string {
	wrongIf(i < 0 || i >= len(o.x.Cmds))
	c := o.x.Cmds[i]
	s := o.address(c.R.A)
	if c.R.B.Kind != addr.Every {
		s += "," + o.address(c.R.B)
	}
	s += iff(c.R.Not, "!") + string([]byte{c.Op})
	n := fmt.Sprint(c.N)
	slashed := func(t string) string { return right(piece.Give(t, '/')) }
	switch {
	case strings.ContainsRune("aic", rune(c.Op)):
		return s + "\\\n" + right(piece.Untext(c.Text))
	case strings.ContainsRune("btT", rune(c.Op)):
		return s + iff(c.To != len(o.x.Cmds), fmt.Sprint("L", c.To))
	case c.Op == 'l':
		return s + iff(c.N != -1, " "+n)
	case c.Op == 'q' || c.Op == 'Q':
		return s + iff(c.N != 0, " "+n)
	case c.Op == 'r' || c.Op == 'w':
		return s + " " + c.Text
	case c.Op == 'y':
		return s + "/" + slashed(trans.Print(c.Text)) + "/" + slashed(trans.Print(c.Into)) + "/"
	case c.Op != 's':
		return s
	}
	p, fold := o.pattern(c.Pat)
	s += p + slashed(right(subst.Print(c.Parts))) + "/"
	return s + iff(c.All, "g") + iff(c.Print, "p") + iff(c.N != 1, n) + fold + iff(c.Text != "", "w "+c.Text)
}

func (o words) whole() string {
	s := iff(o.x.Quiet, "#n\n")
	for i := range o.x.Cmds {
		isAim := slices.ContainsFunc(o.x.Cmds, func(c script.Cmd) bool {
			return strings.Contains("b t T", string([]byte{c.Op})) && c.Op != ' ' && c.To == i
		})
		s += iff(isAim, fmt.Sprintf(":L%d\n", i)) + o.command(i) + "\n"
	}
	again, _, e := script.Parse(s, o.ext)
	wrongIf(e != api.OK || textOf(again) != textOf(o.x))
	return s
}

// orWrong is what tell tells, or what is wrong.
func orWrong(tell func() string) (s string, e api.Errno) {
	defer func() {
		if recover() != nil {
			s, e = "", api.ErrArg
		}
	}()
	return tell(), api.OK
}

// testByWords holds the texts of x and of its commands against what the chapter's words tell, and answers whether x has one.
func testByWords(t *testing.T, x script.Script, ext bool) bool {
	t.Helper()
	o := words{x, ext}
	for i := -1; i <= len(x.Cmds); i++ {
		got, e := Command(x, i, ext)
		want, wantE := orWrong(func() string { return o.command(i) })
		if got != want || e != wantE {
			t.Fatalf("%+v %d: %q %v, and not %q %v", x, i, got, e, want, wantE)
		}
	}
	got, e := Print(x, ext)
	want, wantE := orWrong(o.whole)
	if got != want || e != wantE {
		t.Fatalf("%+v: %q %v, and not %q %v", x, got, e, want, wantE)
	}
	return e == api.OK
}

// anyOf is one of l by chance.
func anyOf[T any](r *rand.Rand, l ...T) T { return l[r.IntN(len(l))] }

// rarely is one of others, one time of so many, and else usual.
func rarely[T any](r *rand.Rand, times int, usual T, others ...T) T {
	if r.IntN(times) > 0 {
		return usual
	}
	return anyOf(r, others...)
}

// anyAddr is an address by chance.
func anyAddr(r *rand.Rand) addr.Addr {
	return addr.Addr{Kind: rarely(r, 20, r.IntN(7), -1, 7), N: rarely(r, 9, r.IntN(3), -1, 77, api.MaxNumber+1), M: rarely(r, 9, r.IntN(2), -5, 30)}
}

// anyCmd is a command by chance, with any things, also those that are not its own.
func anyCmd(r *rand.Rand) script.Cmd {
	texts := []string{"", "t\n", "u", "a/\\\nb\n", " v \n", "/", "\\"}
	l := [][]subst.Part{nil, {{}}, {{Text: "a/", Group: -1}, {Group: 2}}, {{Text: "\\\n&", Group: -1}}, {{Group: 10}}, {{Text: "", Group: -1}}}
	c := script.Cmd{Op: anyOf(r, []byte("{}=dDgGhHnNpPxaicbtTlqQrwsy:z#\n\xff")...)}
	c.R = addr.Range{A: anyAddr(r), Not: r.IntN(4) == 0}
	if r.IntN(2) == 0 {
		c.R.B = anyAddr(r)
	}
	c.Text, c.Into = anyOf(r, texts...), anyOf(r, texts...)
	c.N, c.To, c.Pat = r.IntN(6)-2, r.IntN(6)-1, r.IntN(5)-1
	c.Parts = anyOf(r, l...)
	c.All, c.Print = r.IntN(2) == 0, r.IntN(2) == 0
	return c
}

func TestP14_1AnyThings(t *testing.T) {
	r := rand.New(rand.NewPCG(14, 1))
	pats := append(threePats(t), pat(t, "(a|b)/", true), pat(t, `\(a\)\1`, false), script.Pat{Fold: true})
	for range 100000 {
		x := script.Script{Quiet: r.IntN(5) == 0}
		for range r.IntN(4) {
			x.Pats = append(x.Pats, anyOf(r, pats...))
		}
		for range r.IntN(4) {
			x.Cmds = append(x.Cmds, anyCmd(r))
		}
		testByWords(t, x, r.IntN(2) == 0)
	}
}

// lines are commands, each of which may stand in a line alone.
func lineTexts() []string {
	return []string{
		"p", "=", "d", "D", "g", "G", "h", "H", "n", "N", "P", "x", "1,2p;d", "$!{", "{p", "}", "};}", "b a", "t", "T b", ":a", ":b", ": c ", "t c", "a\\\nt", "i t", "1!c  \\ t\\\nu\\\\", "a\\\n\\\n", "r f", "w f g", "l", "l 0", "l 7;q 5", "Q", "q255", "# none", "", "  ;", "2~3,+4N", "0~0,~5!x", "999999999,$P",
		"/a/,/b/I s/x/y/g", "s/a/b/2pw h", "y/ab/ba/ ; p", "0,/a/{/b/!d}", "//s//&/", "s,a\\,b,\\,&\\&\\\n,Ig", "s|/|//|3", `y,/\,,\\\n,`, `\,[]/\],I{`, "s/[^/-9]*$//I", "s/^a\\.b*//p", `\xa\x/bx!b`, "/\\//,/\\n/=", "y///", "/[[:alpha:]/]/I,+0d",
	}
}

// extendedTexts are commands with patterns that are told otherwise as basic ones.
func extendedTexts() []string {
	return []string{"/a|b/p", "s/(a)|(b)+/\\2\\1/g", "/a{2,3}c?/!{", "s/\\(\\+|\\//x/", "/^+/p"}
}

// basicTexts are commands with patterns that are told otherwise as extended ones.
func basicTexts() []string {
	return []string{`/\(a*\)\1/p`, `s/\(a\)\{2,\}|b/\1/I`, `/a\{1,\}+/d`, `s/\(^a$\)*$^//g`}
}

// anyScript is a text by chance, which is a script most times.
func anyScript(r *rand.Rand, ext bool) string {
	l := append(lineTexts(), basicTexts()...)
	if ext {
		l = append(lineTexts(), extendedTexts()...)
	}
	s := rarely(r, 5, "", "#n\n")
	open := 0
	labels := map[string]bool{}
	for range r.IntN(12) {
		line := anyOf(r, l...)
		if labels[line] || open == 0 && strings.HasPrefix(line, "}") {
			continue
		}
		if strings.HasPrefix(line, ":") {
			labels[line] = true
		}
		if line == "};}" && open < 2 {
			continue
		}
		open += strings.Count(line, "{") - strings.Count(line, "}") - strings.Count(line, `\{`) + strings.Count(line, `\}`)
		s += line + "\n"
	}
	s += strings.Repeat("}", max(0, open))
	for _, name := range []string{":a", ":b", ": c "} {
		if !labels[name] {
			s += "\n" + name
		}
	}
	return s
}

func TestP14_3PrintedIsParsed(t *testing.T) {
	r := rand.New(rand.NewPCG(14, 2))
	scripts := 0
	for range 30000 {
		ext := r.IntN(2) == 0
		s := anyScript(r, ext)
		x, _, e := script.Parse(s, ext)
		if e != api.OK {
			continue
		}
		scripts++
		told, e := Print(x, ext)
		again, _, againE := script.Parse(told, ext)
		if e != api.OK || againE != api.OK || textOf(again) != textOf(x) {
			t.Fatalf("%q %v: %q %v %v", s, ext, told, e, againE)
		}
		if next, e := Print(again, ext); next != told || e != api.OK {
			t.Fatalf("%q %v: %q %v, and not %q", s, ext, next, e, told)
		}
		testByWords(t, x, ext)
		testByWords(t, x, !ext)
	}
	if scripts < 20000 {
		t.Error(scripts)
	}
}

// TestP14_3EachPattern is of patterns and replacements of all bytes, which are told as pieces.
func TestP14_3EachPattern(t *testing.T) {
	for b := range 256 {
		d := string([]byte{byte(b)})
		for _, s := range []string{"s" + d + "a" + d + "b" + d, "s,[" + d + "]," + d + ",", "/" + d + "/p", `/\` + d + "/p", "/[" + d + "x-z/]/p", "/[^" + d + "/]*/p", `\` + d + "ab" + d + "I!p", `s,a,\` + d + ",", "y,a," + d + ",", `y,\` + d + ",a,", "y" + d + "/\\" + d + d + "\\\\b" + d, "a" + d + d, "a\\\n" + d + "\\" + d, "r" + d + "f" + d, ":" + d + ";b" + d, "l" + d, "p" + d + "p", d, "s/" + d + "//"} {
			for _, ext := range []bool{false, true} {
				x, _, e := script.Parse(s, ext)
				if e != api.OK {
					continue
				}
				told, e := Print(x, ext)
				again, _, againE := script.Parse(told, ext)
				if e != api.OK || againE != api.OK || textOf(again) != textOf(x) {
					t.Fatalf("%q %v: %q %v %v", s, ext, told, e, againE)
				}
				testByWords(t, x, ext)
			}
		}
	}
}

// change changes one thing of x by chance.
func change(r *rand.Rand, x *script.Script) {
	if len(x.Cmds) == 0 {
		x.Quiet = !x.Quiet
		return
	}
	c := &x.Cmds[r.IntN(len(x.Cmds))]
	other := anyCmd(r)
	switch r.IntN(12) {
	case 0:
		c.R = other.R
	case 1:
		c.Op = other.Op
	case 2:
		c.Text = other.Text
	case 3:
		c.Into = other.Into
	case 4:
		c.N = other.N
	case 5:
		c.To = r.IntN(len(x.Cmds)+3) - 1
	case 6:
		c.Pat = other.Pat
	case 7:
		c.Parts = other.Parts
	case 8:
		c.All = other.All
	case 9:
		c.Print = other.Print
	case 10:
		if len(x.Pats) > 0 {
			p := &x.Pats[r.IntN(len(x.Pats))]
			p.Fold = !p.Fold
		}
	default:
		x.Quiet = !x.Quiet
	}
}

func TestP14_2ChangedScripts(t *testing.T) {
	r := rand.New(rand.NewPCG(14, 3))
	met := map[bool]int{}
	for range 30000 {
		ext := r.IntN(2) == 0
		x, _, e := script.Parse(anyScript(r, ext), ext)
		if e != api.OK {
			continue
		}
		change(r, &x)
		met[testByWords(t, x, ext)]++
	}
	if met[true] < 2000 || met[false] < 2000 {
		t.Error(met)
	}
}
