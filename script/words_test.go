package script

import (
	"math/rand/v2"
	"regexp"
	"strconv"
	"strings"
	"testing"

	"calender/addr"
	"calender/api"
	"calender/bre"
	"calender/ere"
	"calender/rx"
	"calender/subst"
	"calender/trans"
)

// words reads a script of bytes below 128 as the chapter says it, word by word: what stands at a place is told by regular expressions, and what is wrong is a panic.
type words struct {
	forms    map[string]*regexp.Regexp
	s        string
	at, from int
	ext      bool
	x        Script
	places   []int
	open     []int
	labels   map[string]int
	jumps    map[int]string
}

// fault is what is wrong, and where.
type fault struct {
	place int
	e     api.Errno
}

// ahead is what form has, and its groups, if it fits here, and nil else.
func (o *words) ahead(form string) []string {
	if o.forms[form] == nil {
		o.forms[form] = regexp.MustCompile(`^(?s:` + form + `)`)
	}
	return o.forms[form].FindStringSubmatch(o.s[o.at:])
}

// take is ahead, and goes behind that.
func (o *words) take(form string) []string {
	m := o.ahead(form)
	if m != nil {
		o.at += len(m[0])
	}
	return m
}

// has takes form, and tells whether it stands here.
func (o *words) has(form string) bool { return o.take(form) != nil }

// wrongIf leaves with e, if it is so.
func (o *words) wrongIf(is bool, e api.Errno) {
	if is {
		panic(fault{o.from, e})
	}
}

// number is what digits tell, up to most; else e is wrong.
func (o *words) number(digits string, most int, e api.Errno) int {
	n, err := strconv.Atoi(digits)
	o.wrongIf(err != nil || n > most, e)
	return n
}

const most = 999999999

// piece takes what stands ahead of d, and that.
func (o *words) piece(d string) string {
	o.wrongIf(d == "" || d == `\` || d == "\n", api.ErrScript)
	q := regexp.QuoteMeta(d)
	m := o.take(`((?:\\.|[^\\\n])*?)` + q)
	// The least one that ends by d, and has no \ torn from what is behind it, is the one up to the first d without a \ ahead.
	o.wrongIf(m == nil, api.ErrScript)
	pair := func(p string) string {
		if p == `\`+d {
			return d
		}
		return p
	}
	return regexp.MustCompile(`(?s:\\.)`).ReplaceAllStringFunc(m[1], pair)
}

// pattern takes one up to d.
func (o *words) pattern(d string) int {
	told := o.piece(d)
	nodes, _, e := bre.Parse(told)
	if o.ext {
		nodes, _, e = ere.Parse(told)
	}
	o.wrongIf(e != api.OK, e)
	o.wrongIf(len(o.x.Pats) == 999, api.ErrWide)
	o.x.Pats = append(o.x.Pats, Pat{Nodes: nodes})
	return len(o.x.Pats) - 1
}

// address takes one, and tells whether there is one.
func (o *words) address(isSecond bool) (addr.Addr, bool) {
	if m := o.take(`([0-9]+)(~([0-9]*))?`); m != nil {
		n := o.number(m[1], most, api.ErrAddr)
		if m[2] == "" {
			return addr.Addr{Kind: addr.Number, N: n}, true
		}
		return addr.Addr{Kind: addr.Step, N: n, M: o.number(m[3], most, api.ErrAddr)}, true
	}
	if o.has(`\$`) {
		return addr.Addr{Kind: addr.Last}, true
	}
	if m := o.take(`(/)|\\(.?)`); m != nil {
		n := o.pattern(m[1] + m[2])
		o.x.Pats[n].Fold = o.has(`I`)
		return addr.Addr{Kind: addr.Rx, N: n}, true
	}
	if !isSecond {
		return addr.Addr{}, false
	}
	m := o.take(`([+~])([0-9]*)`)
	o.wrongIf(m == nil, api.ErrAddr)
	kinds := map[string]int{"+": addr.Plus, "~": addr.Round}
	return addr.Addr{Kind: kinds[m[1]], N: o.number(m[2], most, api.ErrAddr)}, true
}

// command takes a whole one.
func (o *words) command() {
	o.from = o.at
	c := Cmd{Pat: -1}
	count := 0
	var is bool
	if c.R.A, is = o.address(false); is {
		count = 1
		if o.has(`[ \t]*,[ \t]*`) {
			count = 2
			c.R.B, _ = o.address(true)
		}
	}
	o.wrongIf(!addr.May(c.R), api.ErrAddr)
	c.R.Not = o.has(`[ \t]*!`)
	m := o.take(`[ \t]*([{}=:abcdDgGhHilnNpPqQrstTwxy])`)
	o.wrongIf(m == nil, api.ErrScript)
	c.Op = m[1][0]
	o.wrongIf(strings.Contains("}:", m[1]) && (count > 0 || c.R.Not) || strings.Contains("qQ", m[1]) && count == 2, api.ErrAddr)
	o.belongs(&c)
	o.wrongIf(!strings.Contains("{}aic", m[1]) && o.ahead(`[ \t]*($|[\n;#}])`) == nil, api.ErrScript)
	if c.Op != ':' {
		o.x.Cmds = append(o.x.Cmds, c)
		o.places = append(o.places, o.from)
	}
}

// belongs takes what belongs to c.
func (o *words) belongs(c *Cmd) {
	switch c.Op {
	case '{':
		o.open = append(o.open, len(o.x.Cmds))
	case '}':
		o.wrongIf(len(o.open) == 0, api.ErrBlock)
		c.To = o.open[len(o.open)-1]
		o.x.Cmds[c.To].To = len(o.x.Cmds)
		o.open = o.open[:len(o.open)-1]
	case 'a', 'i', 'c':
		o.has(`[ \t]*(\\\n)?`)
		o.wrongIf(o.at == len(o.s), api.ErrScript)
		m := o.take(`((?:\\.|[^\\\n])*)(\n|$)`)
		o.wrongIf(m == nil, api.ErrScript)
		c.Text = regexp.MustCompile(`(?s:\\(.))`).ReplaceAllString(m[1], "$1") + "\n"
	case 'b', 't', 'T':
		o.jumps[len(o.x.Cmds)] = o.label()
	case ':':
		name := o.label()
		_, is := o.labels[name]
		o.wrongIf(name == "" || is, api.ErrLabel)
		o.labels[name] = len(o.x.Cmds)
	case 'l', 'q', 'Q':
		greatest := 255
		if c.Op == 'l' {
			c.N, greatest = -1, most
		}
		if m := o.take(`[ \t]*([0-9]+)`); m != nil {
			c.N = o.number(m[1], greatest, api.ErrScript)
		}
	case 'r', 'w':
		c.Text = o.line()
		o.wrongIf(c.Text == "", api.ErrScript)
	case 's':
		o.subst(c)
	case 'y':
		d := o.take(`.?`)[0]
		from, to := o.piece(d), o.piece(d)
		var e api.Errno
		c.Text, _, e = trans.Parse(from)
		o.wrongIf(e != api.OK, e)
		c.Into, _, e = trans.Parse(to)
		o.wrongIf(e != api.OK, e)
		_, e = trans.Make(c.Text, c.Into)
		o.wrongIf(e != api.OK, e)
	}
}

// label takes what may be one, or "".
func (o *words) label() string {
	name := strings.TrimRight(o.take(`[ \t]*([^;}\n]*)`)[1], " \t")
	o.wrongIf(strings.ContainsAny(name, " \t"), api.ErrLabel)
	return name
}

// line takes what is left of it.
func (o *words) line() string { return strings.TrimRight(o.take(`[ \t]*([^\n]*)`)[1], " \t") }

// subst takes what belongs to s.
func (o *words) subst(c *Cmd) {
	d := o.take(`.?`)[0]
	c.Pat = o.pattern(d)
	parts, _, e := subst.Parse(o.piece(d))
	o.wrongIf(e != api.OK, e)
	c.Parts = parts
	flags := o.take(`([gpI]|[0-9]+)*`)[0]
	rest := regexp.MustCompile(`[gpI]|[0-9]+`).FindAllString(flags, -1)
	seen := map[string]int{}
	for _, f := range rest {
		kind := f
		if f[0] >= '0' && f[0] <= '9' {
			kind = "N"
			c.N = o.number(f, most, api.ErrFlag)
			o.wrongIf(c.N == 0, api.ErrFlag)
		}
		seen[kind]++
		o.wrongIf(seen[kind] == 2, api.ErrFlag)
	}
	c.All, c.Print = seen["g"] > 0, seen["p"] > 0
	o.x.Pats[c.Pat].Fold = seen["I"] > 0
	if seen["N"] == 0 {
		c.N = 1
	}
	if o.has(`w`) {
		c.Text = o.line()
		o.wrongIf(c.Text == "", api.ErrFlag)
	}
	told := rx.Text(o.x.Pats[c.Pat].Nodes)
	o.wrongIf(told != "e" && subst.Most(parts) > strings.Count(told, "("), api.ErrRef)
}

// whole reads all.
func (o *words) whole() {
	o.wrongIf(len(o.s) > 4000, api.ErrWide)
	if o.ahead(`#n($|\n)`) != nil {
		o.x.Quiet = true
	}
	for {
		o.has(`([ \t\n;]|#[^\n]*)*`)
		if o.at == len(o.s) {
			break
		}
		o.command()
	}
	if len(o.open) > 0 {
		o.from = o.places[o.open[len(o.open)-1]]
		o.wrongIf(true, api.ErrBlock)
	}
	for i := range o.x.Cmds {
		name, is := o.jumps[i]
		if !is {
			continue
		}
		to, is := o.labels[name]
		o.from = o.places[i]
		o.wrongIf(name != "" && !is, api.ErrLabel)
		if name == "" {
			to = len(o.x.Cmds)
		}
		o.x.Cmds[i].To = to
	}
}

// parseByWords is Parse, as the chapter says it.
func parseByWords(forms map[string]*regexp.Regexp, s string, ext bool) (x Script, place int, e api.Errno) {
	o := words{forms: forms, s: s, ext: ext, labels: map[string]int{}, jumps: map[int]string{}}
	defer func() {
		if f, is := recover().(fault); is {
			x, place, e = Script{}, f.place, f.e
		}
	}()
	o.whole()
	return o.x, 0, api.OK
}

// testByWords holds Parse of s against the chapter.
func testByWords(t *testing.T, forms map[string]*regexp.Regexp, s string, ext bool) {
	t.Helper()
	got, place, e := Parse(s, ext)
	want, wantPlace, wantE := parseByWords(forms, s, ext)
	if !same(got, want) || place != wantPlace || e != wantE {
		t.Fatalf("%q %v: %+v %d %v, and not %+v %d %v", s, ext, got, place, e, want, wantPlace, wantE)
	}
}

// textsOf are all texts of letters, up to n of them.
func textsOf(letters string, n int) []string {
	all := []string{""}
	for from, length := 0, 0; length < n; length++ {
		to := len(all)
		for _, s := range all[from:to] {
			for i := range len(letters) {
				all = append(all, s+letters[i:i+1])
			}
		}
		from = to
	}
	return all
}

func TestP13_1AllShortOnes(t *testing.T) {
	forms := map[string]*regexp.Regexp{}
	for letters, n := range map[string]int{"p;{}# \n": 5, "1,$!~+0p": 5, "/aI,!p\\": 5, "b: a;}x": 5, "sa/&\\1": 6, "s/g1wp \n": 5, "y/ab\\n": 6, "ai\\ \nt": 5, "qlQ1 9": 4, "rw f\n;": 5, "#n\np": 5} {
		for _, s := range textsOf(letters, n) {
			testByWords(t, forms, s, len(s)%2 == 0)
		}
		// What s and y need at least is put ahead.
		for _, s := range textsOf("gpI12w 0;", 4) {
			testByWords(t, forms, "s/a/b/"+s, false)
		}
	}
}

// tokens are what scripts by chance are put together of.
func tokens() []string {
	return []string{
		"p", "d", "=", "x", "n", "N", "g", "G", "h", "H", "D", "P", ";", ";", ";", "\n", "\n", " ", "\t", "{", "{", "}", "}", "}", "#", "# a\n", "!", ",", "1", "2,3", "0", "0,", "$", "$!", "1~2", "~", "+2", ",~4", "1,+3", "999999999", "1000000000", "255", "256",
		"/a/", "/a/I", "/a*/,", "//", `\,a,`, `\xax`, "/[", `/\(a\)/`, "/(a)/", `/\(/`, "/)/", "/a|b/", "/", "\\", "\\\n",
		"a", "i", "c", "a t\n", "i\\\nt\n", "c\\\n  t\\\nu\n", "b", "t", "T", "b a", "t b\n", "T a;", ":", ":a", ":a\n", ":b\n", ": b ;", "l", "l 5", "q", "Q", "q5", "Q 1", "r f\n", "w g", "r",
		"s/a/b/", "s/a/b/;", "s", `s/\(a\)/\1/`, `s/(a)/\1/`, "s//x/", "s,a,&,g", "s/a/b/w f\n", "s/a/b/gp", "I", "2", "w", "s/a/\\\n/", `s/a/\z/`, "y/a/b/", "y/ab/c/", "y,a\\,,bc,", "y/a", "y",
	}
}

func TestP13_1ByChance(t *testing.T) {
	forms := map[string]*regexp.Regexp{}
	r := rand.New(rand.NewPCG(13, 1))
	l := tokens()
	met := map[api.Errno]int{}
	for range 150000 {
		var s string
		for range r.IntN(9) {
			s += l[r.IntN(len(l))]
		}
		ext := r.IntN(2) == 0
		testByWords(t, forms, s, ext)
		_, _, e := Parse(s, ext)
		met[e]++
	}
	for _, e := range []api.Errno{api.OK, api.ErrRx, api.ErrParen, api.ErrSet, api.ErrRef, api.ErrTemp, api.ErrTrans, api.ErrScript, api.ErrAddr, api.ErrLabel, api.ErrBlock, api.ErrFlag} {
		if met[e] < 10 {
			t.Errorf("%v: %d", e, met[e])
		}
	}
}

// TestP13_1GreatOnes is of scripts of which most are right: each line is one or two commands, and what is wrong is put in by chance.
func TestP13_1GreatOnes(t *testing.T) {
	forms := map[string]*regexp.Regexp{}
	r := rand.New(rand.NewPCG(13, 2))
	lines := []string{"p", "1,2p;d", "$!{", "{p", "}", "};}", "/a/,/b/I s/x/y/g", "b a", "t", "T b", ":a", ":b", "a\\\nt", "i t", "1!c t\\\nu", "r f", "w f g", "s/a/b/2pw h", "y/ab/ba/ ; p", "l 7;q 5", "# none", "", "  ;", "0,/a/{/b/!d}", "2~3,+4N", "//s//&/"}
	l := tokens()
	for range 20000 {
		var s string
		for range 1 + r.IntN(12) {
			s += lines[r.IntN(len(lines))] + "\n"
		}
		if r.IntN(3) == 0 {
			i := r.IntN(len(s))
			s = s[:i] + l[r.IntN(len(l))] + s[i:]
		}
		if r.IntN(5) == 0 {
			s = "#n\n" + s
		}
		testByWords(t, forms, s, r.IntN(2) == 0)
	}
}
