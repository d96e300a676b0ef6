package bre

import (
	"fmt"
	"strings"
	"testing"

	"calender/api"
	"calender/set"
)

// names are all classes.
func names() []string {
	return []string{"upper", "lower", "alpha", "digit", "alnum", "xdigit", "blank", "space", "cntrl", "graph", "print", "punct"}
}

func classOf(name string) set.Set {
	s, _ := set.Class(name)
	return s
}

// all is the set of all bytes.
func all() set.Set { return set.Range(0, 255) }

// list is a text that begins with a list, what the set of that is, and how many bytes it takes.
type list struct {
	s    string
	want set.Set
	n    int
}

// rightLists are lists, and what is behind some of them.
func rightLists() []list {
	return []list{
		{"[a]", set.Of("a"), 3},
		{"[abc]", set.Of("abc"), 5},
		{"[abca]", set.Of("abc"), 6},
		{"[abc]def]", set.Of("abc"), 5},
		{"[a][b]", set.Of("a"), 3},
		{"[\x00\n\x80\xff]", set.Of("\x00\n\x80\xff"), 6},
		{"[^a]", set.Not(set.Of("a")), 4},
		{"[^ab]c", set.Not(set.Of("ab")), 5},
		{"[^^]", set.Not(set.Of("^")), 4},
		{"[a^]", set.Of("a^"), 4},
		{"[^^a^]", set.Not(set.Of("a^")), 6},
		{"[]]", set.Of("]"), 3},
		{"[]a]", set.Of("]a"), 4},
		{"[]]]", set.Of("]"), 3},
		{"[a]]", set.Of("a"), 3},
		{"[^]]", set.Not(set.Of("]")), 4},
		{"[^]a]", set.Not(set.Of("]a")), 5},
		{"[]-a]", set.Range(']', 'a'), 5},
		{"[^]-a]", set.Not(set.Range(']', 'a')), 6},
		{"[]-]", set.Of("]-"), 4},
		{"[]-]]", set.Of("]-"), 4},
		{"[-]", set.Of("-"), 3},
		{"[-a]", set.Of("-a"), 4},
		{"[a-]", set.Of("-a"), 4},
		{"[^-]", set.Not(set.Of("-")), 4},
		{"[^-a]", set.Not(set.Of("-a")), 5},
		{"[^a-]", set.Not(set.Of("-a")), 5},
		{"[--]", set.Of("-"), 4},
		{"[---]", set.Of("-"), 5},
		{"[----]", set.Of("-"), 6},
		{"[--/]", set.Of("-./"), 5},
		{"[^--/]", set.Not(set.Of("-./")), 6},
		{"[+--]", set.Of("+,-"), 5},
		{"[+---]", set.Of("+,-"), 6},
		{"[+--/]", set.Of("+,-/"), 6},
		{"[a-c]", set.Of("abc"), 5},
		{"[a-c-]", set.Of("abc-"), 6},
		{"[-a-c]", set.Of("abc-"), 6},
		{"[a-a]", set.Of("a"), 5},
		{"[a-cx-z]", set.Of("abcxyz"), 8},
		{"[a-c0-9_]", set.Or(set.Of("abc_"), set.Range('0', '9')), 9},
		{"[\x00-\xff]", all(), 5},
		{"[\x01-\xff]", set.Range(1, 255), 5},
		{"[^\x01-\xff]", set.Of("\x00"), 6},
		{"[[]", set.Of("["), 3},
		{"[[a]", set.Of("[a"), 4},
		{"[a[]", set.Of("[a"), 4},
		{"[[[]", set.Of("["), 4},
		{"[[]]", set.Of("["), 3},
		{"[[-a]", set.Range('[', 'a'), 5},
		{"[A-[]", set.Range('A', '['), 5},
		{"[A-[a]", set.Or(set.Range('A', '['), set.Of("a")), 6},
		{"[.]", set.Of("."), 3},
		{"[.a.]", set.Of(".a"), 5},
		{"[:a:]", set.Of(":a"), 5},
		{"[=a=]", set.Of("=a"), 5},
		{"[:alpha:]", set.Of(":alph"), 9},
		{"[.[]", set.Of(".["), 4},
		{`[\]`, set.Of(`\`), 3},
		{`[\]]`, set.Of(`\`), 3},
		{`[\.]`, set.Of(`\.`), 4},
		{`[\\]`, set.Of(`\`), 4},
		{`[a\]`, set.Of(`a\`), 4},
		{`[\n]`, set.Of("\n"), 4},
		{`[n\]`, set.Of(`n\`), 4},
		{`[\\n]`, set.Of("\\\n"), 5},
		{`[\na]`, set.Of("\na"), 5},
		{`[^\n]`, set.Not(set.Of("\n")), 5},
		{`[\n-a]`, set.Range('\n', 'a'), 6},
		{`[\n-\n]`, set.Of("\n"), 7},
		{"[\x01-\\n]", set.Range(1, 10), 6},
		{`[\-n]`, set.Range('\\', 'n'), 5},
		{`[!-\]`, set.Range('!', '\\'), 5},
		{`[\-]`, set.Of(`\-`), 4},
		{"[[.a.]]", set.Of("a"), 7},
		{"[[.-.]]", set.Of("-"), 7},
		{"[a[.-.]z]", set.Of("a-z"), 9},
		{"[[.].]]", set.Of("]"), 7},
		{"[[...]]", set.Of("."), 7},
		{"[[.[.]]", set.Of("["), 7},
		{"[[.\n.]]", set.Of("\n"), 7},
		{`[[.\.]]`, set.Of(`\`), 7},
		{"[[.a.]-c]", set.Of("abc"), 9},
		{"[a-[.c.]]", set.Of("abc"), 9},
		{"[[.a.]-[.c.]]", set.Of("abc"), 13},
		{"[[.-.]-/]", set.Of("-./"), 9},
		{"[+-[.-.]]", set.Of("+,-"), 9},
		{"[[.a.]-]", set.Of("a-"), 8},
		{"[[.].]-[.a.]]", set.Range(']', 'a'), 13},
		{"[[=a=]]", set.Of("a"), 7},
		{"[[=-=]]", set.Of("-"), 7},
		{"[[=]=]]", set.Of("]"), 7},
		{"[[===]]", set.Of("="), 7},
		{"[[=a=]-]", set.Of("a-"), 8},
		{"[[=a=]b-d]", set.Of("abcd"), 10},
		{"[[=a=][.b.][:digit:]]", set.Or(set.Of("ab"), classOf("digit")), 21},
		{"[[:alpha:]_]", set.Or(classOf("alpha"), set.Of("_")), 12},
		{"[[:alpha:]-]", set.Or(classOf("alpha"), set.Of("-")), 12},
		{"[^[:alpha:]]", set.Not(classOf("alpha")), 12},
		{"[[:upper:][:lower:]]", classOf("alpha"), 20},
		{"[[:digit:]a-c]x", set.Or(classOf("digit"), set.Of("abc")), 14},
	}
}

// wrongLists are texts that begin with no list.
func wrongLists() []string {
	return []string{
		"", "a", "]", "a[a]", "^[a]", "\n[a]", `\[a]`,
		"[", "[]", "[^", "[^]", "[a", "[^a", "[]a", "[^]a", "[a-", "[a-z", "[-", "[--", "[^-", "[a-c-", `[\`, `[\n`, "[[", "[]-a", "[]-",
		"[b-a]", "[a-Z]", "[^b-a]", "[xb-ay]", "[a--]", "[]--]", `[a-\n]`, `[A-\n]`, `[\--]`, "[\xff-\x00]", "[]-[]", "[a-[]",
		"[a-c-e]", "[a-c-e-g]", "[a-c--]", "[x-z-\xff]", "[^a-c-e]", "[+---/]",
		"[[:alpha:]", "[[:alpha:]-z]", "[[:alpha:]--]", "[a-[:alpha:]]", "[A-[:alpha:]]", "[[:alpha]]", "[[:alpha]", "[[:alpha:", "[[:alpha",
		"[[:Alpha:]]", "[[: alpha:]]", "[[::]]", "[[:]]", "[[:]:]]", "[[:", "[[:foo:]]", "[[:alpha.]]", "[[:alpha=]]", "[[:alpha:]", "[a[:]",
		"[[:alpha:][:nothing:]]", "[[:alp:ha:]]", "[a[:alpha:]", "[[:alpha:x]", "[[:alpha", "[[:alpha::]]",
		"[[.a.]", "[[.a.", "[[.a", "[[.", "[[..]]", "[[.ab.]]", "[[.a]]", "[[.a=]]", "[[.a:]]", "[[.space.]]", `[[.\n.]]`, "[[.]", "[a[.]", "[a-[.]", "[a-[..]]",
		"[[.c.]-a]", "[c-[.a.]]", "[[.a.]-[.c.]-e]",
		"[[=a=]", "[[=a=", "[[=a", "[[=", "[[==]]", "[[=ab=]]", "[[=a]]", "[[=a.]]", `[[=\n=]]`, "[[=]", "[a[=]",
		"[[=a=]-z]", "[a-[=z=]]", "[A-[=Z=]]", "[[=a=]-[=z=]]", "[[=a=]--]", "[[.a.]-[=z=]]",
		"[^\x00-\xff]", "[^[:print:]\x00-\x1f\x7f-\xff]", "[^a\x00-\xfe\xff]",
	}
}

func TestP4_1Bracket(t *testing.T) {
	for _, x := range rightLists() {
		if s, n, e := Bracket(x.s); s != x.want || n != x.n || e != api.OK {
			t.Errorf("%q %q %d %d", x.s, set.Bytes(s), n, e)
		}
	}
}

func TestP4_1BracketOfWrongOnes(t *testing.T) {
	for _, s := range wrongLists() {
		if s2, n, e := Bracket(s); s2 != (set.Set{}) || n != 0 || e != api.ErrSet {
			t.Errorf("%q %q %d %d", s, set.Bytes(s2), n, e)
		}
	}
}

// What is behind a list says nothing of it, and a list that is cut off anywhere is none.
func TestP4_1BracketBehindAndCut(t *testing.T) {
	for _, x := range rightLists() {
		for _, behind := range []string{"", "]", "]]", "a", "-", "-z]", "*", "[", "[a]", "\n"} {
			if s, n, e := Bracket(x.s[:x.n] + behind); s != x.want || n != x.n || e != api.OK {
				t.Errorf("%q %q %q %d %d", x.s, behind, set.Bytes(s), n, e)
			}
		}
		for i := range x.n {
			if s, n, e := Bracket(x.s[:i]); s != (set.Set{}) || n != 0 || e != api.ErrSet {
				t.Errorf("%q %q %d %d", x.s[:i], set.Bytes(s), n, e)
			}
		}
	}
}

func TestP4_1BracketOfEachByte(t *testing.T) {
	for i := range 256 {
		b := string([]byte{byte(i)})
		for _, s := range []string{"[" + b + "]", "[[." + b + ".]]", "[[=" + b + "=]]", "[" + b + "-" + b + "]", "[" + b + b + "]"} {
			// ^] and [] do not end: these bytes mean something else there.
			isNone := b == "^" && (s == "[^]" || s == "[^-^]" || s == "[^^]")
			isNone = isNone || b == "]" && (s == "[]-]]" || s == "[]]]")
			if got, n, e := Bracket(s); !isNone && (got != set.Of(b) || n != len(s) || e != api.OK) {
				t.Errorf("%q %q %d %d", s, set.Bytes(got), n, e)
			}
		}
		for j := range 256 {
			if i == '^' || j == ']' {
				continue
			}
			s := "[" + b + "-" + string([]byte{byte(j)}) + "]"
			got, n, e := Bracket(s)
			if i > j && (got != (set.Set{}) || n != 0 || e != api.ErrSet) || i <= j && (got != set.Range(byte(i), byte(j)) || n != 5 || e != api.OK) {
				t.Errorf("%q %q %d %d", s, set.Bytes(got), n, e)
			}
		}
	}
}

func TestP4_1BracketOfClasses(t *testing.T) {
	for _, a := range names() {
		if s, n, e := Bracket("[[:" + a + ":]]"); s != classOf(a) || n != len(a)+6 || e != api.OK {
			t.Error(a, set.Bytes(s), n, e)
		}
		for _, b := range names() {
			s, n, e := Bracket("[^[:" + a + ":]x[:" + b + ":]]")
			if want := set.Not(set.Or(classOf(a), classOf(b), set.Of("x"))); s != want || n != len(a)+len(b)+12 || e != api.OK {
				t.Error(a, b, set.Bytes(s), n, e)
			}
		}
	}
}

// waysOf are all ways to read a list at the beginning of s, by the words of the document: of each its bytes, and its length.
func waysOf(s string) map[string]bool {
	ways := map[string]bool{}
	if !strings.HasPrefix(s, "[") {
		return ways
	}
	at, isNot := 1, strings.HasPrefix(s[1:], "^")
	if isNot {
		at++
	}
	var parts func(at int, isFirst bool, all set.Set)
	parts = func(at int, isFirst bool, all set.Set) {
		if !isFirst && strings.HasPrefix(s[at:], "]") {
			whole := all
			if isNot {
				whole = set.Not(all)
			}
			if whole != (set.Set{}) {
				ways[fmt.Sprintf("%q %d", set.Bytes(whole), at+1)] = true
			}
		}
		for _, name := range names() {
			if class := "[:" + name + ":]"; strings.HasPrefix(s[at:], class) {
				parts(at+len(class), false, set.Or(all, classOf(name)))
			}
		}
		for _, b := range bytesAt(s, at, isFirst, false, false) {
			parts(b.end, false, set.Or(all, set.Of(string([]byte{b.is}))))
		}
		for _, b := range bytesAt(s, at, isFirst, true, false) {
			if !strings.HasPrefix(s[b.end:], "-") {
				continue
			}
			for _, c := range bytesAt(s, b.end+1, false, true, true) {
				if b.is <= c.is {
					parts(c.end, false, set.Or(all, set.Range(b.is, c.is)))
				}
			}
		}
	}
	parts(at, true, set.Set{})
	return ways
}

// byteAt is a byte of a part, and the place behind it.
type byteAt struct {
	is  byte
	end int
}

// bytesAt are all bytes that may be read at a place, by the words of the document.
func bytesAt(s string, at int, isFirst, inRange, isBehind bool) (l []byteAt) {
	left := s[at:]
	if len(left) >= 5 && left[:2] == "[." && left[3:5] == ".]" {
		l = append(l, byteAt{left[2], at + 5})
	}
	if len(left) >= 5 && left[:2] == "[=" && left[3:5] == "=]" && !inRange {
		l = append(l, byteAt{left[2], at + 5})
	}
	isNext := func(b string) bool { return len(left) > 1 && strings.Contains(b, left[1:2]) }
	switch {
	case left == "":
	case left[0] == '\\' && isNext("n"):
		l = append(l, byteAt{'\n', at + 2})
	case left[0] == ']' && !isFirst:
	case left[0] == '-' && !isFirst && !isBehind && !isNext("]"):
	case left[0] == '[' && isNext(".=:"):
	default:
		l = append(l, byteAt{left[0], at + 1})
	}
	return l
}

// texts tells all texts of n of the pieces.
func texts(pieces []string, n int, tell func(s string)) {
	if n == 0 {
		tell("")
		return
	}
	texts(pieces, n-1, func(s string) {
		for _, p := range pieces {
			tell(s + p)
		}
	})
}

func TestP4_1BracketOfAllShortOnes(t *testing.T) {
	right := 0
	try := func(s string) {
		got, n, e := Bracket(s)
		// There is one way to read a list, or none.
		ways := waysOf(s)
		is := len(ways) == 1 && ways[fmt.Sprintf("%q %d", set.Bytes(got), n)] && e == api.OK
		if none := len(ways) == 0 && got == (set.Set{}) && n == 0 && e == api.ErrSet; !is && !none {
			t.Errorf("%q %q %d %d, but %v", s, set.Bytes(got), n, e, ways)
		}
		if is {
			right++
		}
	}
	for n := range 6 {
		texts([]string{"]", "^", "-", "[", ".", "=", `\`, "n", "a"}, n, func(s string) { try("[" + s) })
		texts([]string{"]", "^", "-", "[.", ".]", "[=", "=]", `\n`, "a", "c", "[:digit:]"}, n, func(s string) { try("[" + s) })
	}
	if right < 10000 {
		t.Error(right)
	}
}

func TestP4_2Show(t *testing.T) {
	for _, x := range []struct{ bytes, want string }{
		{"", ""},
		{"a", "a"}, {"0", "0"}, {" ", " "}, {"\x00", "\x00"}, {"\xff", "\xff"}, {"\n", `\n`}, {"\t", "\t"}, {"n", "n"},
		{".", `\.`}, {"[", `\[`}, {`\`, `\\`}, {"*", `\*`}, {"^", `\^`}, {"$", `\$`},
		{"]", "]"}, {"-", "-"}, {"/", "/"}, {"{", "{"}, {"}", "}"}, {"(", "("}, {")", ")"}, {"+", "+"}, {"?", "?"}, {"|", "|"}, {"&", "&"},
		{"ab", "[ab]"}, {"ba", "[ab]"}, {"abc", "[a-c]"}, {"abcd", "[a-d]"}, {"abd", "[abd]"}, {"acd", "[acd]"}, {"abcefg", "[a-ce-g]"}, {"abcfghz", "[a-cf-hz]"},
		{"*$", "[$*]"}, {".*", "[*.]"}, {"*+,", "[*-,]"}, {"*+,-", "[*-,-]"}, {"*+,-.", "[*-,.-]"}, {"*+,-./", "[*-,./-]"}, {",-.", "[,.-]"}, {"-./0", "[.-0-]"},
		{"^-", "[-^]"}, {"^-a", "[a^-]"}, {"^-]", "[]^-]"}, {"^-[", "[[^-]"}, {"^-\n", `[\n^-]`}, {`^-\`, `[\^-]`}, {"^]", "[]^]"}, {"^a", "[a^]"}, {"^[", "[[^]"}, {"^\n", `[\n^]`}, {`^\`, `[\^]`},
		{"]a", "[]a]"}, {"]-", "[]-]"}, {"][", "[][]"}, {"]\\[^-\n", `[]\n[\^-]`}, {"]\\[^-\nab", `[]ab\n[\^-]`}, {"]\\[^-\nabc", `[]a-c\n[\^-]`},
		{"\\n", `[n\]`}, {"\n\\", `[\n\]`}, {"\n\\n", `[n\n\]`}, {"\n[", `[\n[]`}, {"[.", "[.[]"}, {"[:", "[:[]"}, {"[=", "[=[]"}, {`[\`, `[[\]`}, {"[-", "[[-]"}, {"a-", "[a-]"}, {"-/", "[/-]"},
		{"\t\n\v", "[\t\v\\n]"}, {"\x08\t\n\v\f", "[\x08\t\v\f\\n]"}, {"\x07\x08\t\n\v\f\r", "[\x07-\t\v-\r\\n]"},
		{"Z[\\]^_", `[]Z_[\^]`}, {"XYZ[\\]^_`a", "[]X-Z_-a[\\^]"}, {"YZ[_`", "[YZ_`[]"},
	} {
		if got := Show(set.Of(x.bytes)); got != x.want {
			t.Errorf("%q %q, not %q", x.bytes, got, x.want)
		}
	}
}

func TestP4_2ShowOfGreatOnes(t *testing.T) {
	most := "[]\x00-\t\v-,.-Z_-\xff\\n[\\^-]"
	for _, x := range []struct {
		s    set.Set
		want string
	}{
		{set.Set{}, ""},
		{all(), "."},
		{set.Not(set.Of("a")), "[]\x00-\t\v-,.-Z_`b-\xff\\n[\\^-]"},
		{set.Not(set.Of("\n")), strings.Replace(most, `\n`, "", 1)},
		{set.Not(set.Of("]")), strings.Replace(most, "[]", "[", 1)},
		{set.Not(set.Of("^-")), strings.Replace(most, "^-]", "]", 1)},
		{set.Not(set.Of("\xff")), strings.Replace(most, "\xff", "\xfe", 1)},
		{set.Not(set.Of("\x00")), strings.Replace(most, "\x00", "\x01", 1)},
		{set.Range(253, 255), "[\xfd-\xff]"},
		{set.Range(254, 255), "[\xfe\xff]"},
		{set.Range(0, 2), "[\x00-\x02]"},
		{set.Or(set.Range(255, 255), set.Range(0, 1)), "[\x00\x01\xff]"},
		{classOf("alnum"), "[0-9A-Za-z]"},
		{classOf("punct"), "[]!-,./:-@_`{-~[\\^-]"},
	} {
		if got := Show(x.s); got != x.want {
			t.Errorf("%q %q, not %q", set.Bytes(x.s), got, x.want)
		}
	}
}

// shown is what Show is of a set of two bytes or more, but all, by the words of the document.
func shown(s set.Set) string {
	if s == set.Of("-^") {
		return "[-^]"
	}
	is := func(i int) bool {
		return i >= 0 && i <= 255 && set.Has(s, byte(i)) && !strings.Contains("][\\^-\n", string([]byte{byte(i)}))
	}
	told := "["
	if set.Has(s, ']') {
		told += "]"
	}
	for i := range 256 {
		switch isMiddle := is(i-1) && is(i+1); {
		case !is(i), isMiddle && is(i-2):
		case isMiddle:
			// The second one of three or more: all of the middle is told by it.
			told += "-"
		default:
			told += string([]byte{byte(i)})
		}
	}
	for _, x := range []struct {
		b    byte
		told string
	}{{'\n', `\n`}, {'[', "["}, {'\\', `\`}, {'^', "^"}, {'-', "-"}} {
		if set.Has(s, x.b) {
			told += x.told
		}
	}
	return told + "]"
}

// subsets tells all sets of the bytes of s.
func subsets(s string, tell func(l set.Set)) {
	for bits := range 1 << len(s) {
		var l []byte
		for i := range len(s) {
			if bits>>i&1 == 1 {
				l = append(l, s[i])
			}
		}
		tell(set.Of(string(l)))
	}
}

func TestP4_2ShowOfManyOnes(t *testing.T) {
	for _, bytes := range []string{"]\\[^-\nabcd", "XYZ[\\]^_`a", "\x07\x08\t\n\v\f\r\x0e", "*+,-./01", ".[=:]-^n\\\n", "\x00\x01\x02\xfd\xfe\xff^-"} {
		subsets(bytes, func(s set.Set) {
			for _, x := range []set.Set{s, set.Not(s)} {
				if n := set.Size(x); n > 1 && n < 256 && Show(x) != shown(x) {
					t.Errorf("%q %q, not %q", set.Bytes(x), Show(x), shown(x))
				}
			}
		})
	}
}

func TestP4_2ShowIsOneList(t *testing.T) {
	for _, bytes := range []string{"]\\[^-\nabcd", "XYZ[\\]^_`a", "*+,-./01", ".[=:]-^n\\\n"} {
		subsets(bytes, func(s set.Set) {
			for _, x := range []set.Set{s, set.Not(s)} {
				if n := set.Size(x); n < 2 || n == 256 {
					continue
				}
				told := Show(x)
				if got, n, e := Bracket(told); got != x || n != len(told) || e != api.OK {
					t.Errorf("%q %q %d %d", told, set.Bytes(got), n, e)
				}
			}
		})
	}
}
