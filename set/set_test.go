package set

import (
	"math/bits"
	"testing"
)

const (
	low  = "\x00\x01\x02\x03\x04\x05\x06\x07\x08\t\n\v\f\r\x0e\x0f\x10\x11\x12\x13\x14\x15\x16\x17\x18\x19\x1a\x1b\x1c\x1d\x1e\x1f"
	caps = "ABCDEFGHIJKLMNOPQRSTUVWXYZ"
	tiny = "abcdefghijklmnopqrstuvwxyz"
	tens = "0123456789"
)

// isIn tells whether b is in s, by the words of the document.
func isIn(s Set, b int) bool { return bits.Len64(s[b/64]&(1<<(b%64))) > 0 }

// hold tells a fault, unless the bytes of s are just those of which want is true.
func hold(t *testing.T, what string, s Set, want func(b int) bool) {
	t.Helper()
	for b := range 256 {
		if isIn(s, b) != want(b) {
			t.Errorf("%s: byte %d: %v", what, b, isIn(s, b))
		}
	}
}

// among tells whether byte b is one of text's.
func among(text string, b int) bool {
	for i := range len(text) {
		if int(text[i]) == b {
			return true
		}
	}
	return false
}

// every is the text of all bytes, rising.
func every() string {
	var l []byte
	for b := range 256 {
		l = append(l, byte(b))
	}
	return string(l)
}

// samples are sets of all sizes, by a short rule: empty, full, each byte alone, edges of words, and mixed ones.
func samples() []Set {
	const all = 1<<64 - 1
	l := []Set{
		{}, {all, all, all, all}, {all}, {0, all}, {0, 0, all}, {0, 0, 0, all},
		{1 << 63, 1}, {1}, {0, 0, 0, 1 << 63}, {1 << 63, 1 << 63, 1 << 63, 1 << 63}, {1, 1, 1, 1},
	}
	for b := range 256 {
		var s Set
		s[b/64] = 1 << (b % 64)
		l = append(l, s)
	}
	x := uint64(2463534242)
	for range 60 {
		var s Set
		for i := range len(s) {
			x ^= x << 13
			x ^= x >> 7
			x ^= x << 17
			s[i] = x
		}
		l = append(l, s)
	}
	return l
}

func TestP2_1Of(t *testing.T) {
	for _, text := range []string{
		"", "a", "hello", "aaaa", "\x00", "\xff", "\x00\xff", "?@", "\x7f\x80", "\xbf\xc0", "\xc3\xa4\xe2\x82\xac",
		"\n\t ", low, caps + tiny + tens, every(), every() + every(),
	} {
		hold(t, "Of "+text, Of(text), func(b int) bool { return among(text, b) })
	}
}

func TestP2_1OfWords(t *testing.T) {
	for _, x := range []struct {
		text string
		want Set
	}{
		{"", Set{}},
		{"\x00", Set{1}},
		{"?", Set{1 << 63}},
		{"@", Set{0, 1}},
		{"a", Set{0, 1 << 33}},
		{"\x7f\x80", Set{0, 1 << 63, 1}},
		{"\xbf", Set{0, 0, 1 << 63}},
		{"\xc0\xff", Set{0, 0, 0, 1<<63 | 1}},
	} {
		if Of(x.text) != x.want {
			t.Errorf("%q %x", x.text, Of(x.text))
		}
	}
}

func TestP2_1Has(t *testing.T) {
	for _, s := range samples() {
		for b := range 256 {
			if Has(s, byte(b)) != isIn(s, b) {
				t.Errorf("%x %d", s, b)
			}
		}
	}
}

func TestP2_1Range(t *testing.T) {
	for a := range 256 {
		for b := range 256 {
			hold(t, "Range", Range(byte(a), byte(b)), func(c int) bool { return a <= c && c <= b })
		}
	}
}

func TestP2_1RangeEdges(t *testing.T) {
	const all = 1<<64 - 1
	for _, x := range []struct {
		a, b byte
		want Set
	}{
		{0, 255, Set{all, all, all, all}},
		{255, 0, Set{}},
		{0, 0, Set{1}},
		{255, 255, Set{0, 0, 0, 1 << 63}},
		{1, 0, Set{}},
		{255, 254, Set{}},
		{63, 64, Set{1 << 63, 1}},
		{64, 127, Set{0, all}},
		{128, 255, Set{0, 0, all, all}},
	} {
		if Range(x.a, x.b) != x.want {
			t.Errorf("%d %d %x", x.a, x.b, Range(x.a, x.b))
		}
	}
}

func TestP2_1Or(t *testing.T) {
	l := samples()
	for i, a := range l {
		b, c := l[(i*7+3)%len(l)], l[(i*5+1)%len(l)]
		hold(t, "Or of one", Or(a), func(k int) bool { return isIn(a, k) })
		hold(t, "Or of two", Or(a, b), func(k int) bool { return isIn(a, k) || isIn(b, k) })
		hold(t, "Or of three", Or(a, b, c), func(k int) bool { return isIn(a, k) || isIn(b, k) || isIn(c, k) })
	}
	hold(t, "Or of all", Or(l...), func(int) bool { return true })
}

func TestP2_1OrOfNone(t *testing.T) {
	if Or() != (Set{}) || Or(nil...) != (Set{}) || Or([]Set{}...) != (Set{}) || Or(Set{}, Set{}) != (Set{}) {
		t.Error(Or())
	}
}

func TestP2_1OrKeepsItsArguments(t *testing.T) {
	l, was := samples(), samples()
	Or(l...)
	for i := range l {
		if l[i] != was[i] {
			t.Errorf("%d %x", i, l[i])
		}
	}
}

func TestP2_1Not(t *testing.T) {
	const all = 1<<64 - 1
	for _, s := range samples() {
		hold(t, "Not", Not(s), func(b int) bool { return !isIn(s, b) })
	}
	if Not(Set{}) != (Set{all, all, all, all}) || Not(Set{all, all, all, all}) != (Set{}) {
		t.Error("of nothing, and of all")
	}
}

func TestP2_1Size(t *testing.T) {
	for _, s := range samples() {
		n := 0
		for b := range 256 {
			if isIn(s, b) {
				n++
			}
		}
		if Size(s) != n {
			t.Errorf("%x %d", s, Size(s))
		}
	}
	if Size(Set{}) != 0 || Size(Of(every())) != 256 || Size(Of("hello")) != 4 {
		t.Error("of nothing, of all, and of a text")
	}
}

func TestP2_1Bytes(t *testing.T) {
	for _, s := range samples() {
		var want []byte
		for b := range 256 {
			if isIn(s, b) {
				want = append(want, byte(b))
			}
		}
		if Bytes(s) != string(want) {
			t.Errorf("%x %q", s, Bytes(s))
		}
	}
	if Bytes(Set{}) != "" || Bytes(Of("hello")) != "ehlo" || Bytes(Of("\xff\x80a\x00")) != "\x00a\x80\xff" {
		t.Error("of nothing, and of texts")
	}
}

func TestP2_2Fold(t *testing.T) {
	for _, x := range []struct{ text, want string }{
		{"", ""},
		{"a1", "Aa1"},
		{"A", "Aa"},
		{"zZ", "Zz"},
		{"Az", "AaZz"},
		{"m", "Mm"},
		{caps, caps + tiny},
		{tiny, caps + tiny},
		// The neighbours of the letters, of which each would have an other one 32 bytes away.
		{"@", "@"}, {"[", "["}, {"`", "`"}, {"{", "{"},
		// Letters in other tables of bytes, and what bit 32 tells apart, are none here.
		{"\xc4", "\xc4"}, {"\xe4", "\xe4"}, {"\xc1", "\xc1"}, {"\xe1", "\xe1"},
		{"\x01", "\x01"}, {"!", "!"}, {"0", "0"}, {"\x10", "\x10"}, {"\xff", "\xff"},
	} {
		if Fold(Of(x.text)) != Of(x.want) {
			t.Errorf("%q %q", x.text, Bytes(Fold(Of(x.text))))
		}
	}
}

func TestP2_2FoldOfEach(t *testing.T) {
	for _, s := range samples() {
		hold(t, "Fold", Fold(s), func(b int) bool {
			for i := range len(caps) {
				if b == int(caps[i]) && isIn(s, int(tiny[i])) || b == int(tiny[i]) && isIn(s, int(caps[i])) {
					return true
				}
			}
			return isIn(s, b)
		})
		if Fold(Fold(s)) != Fold(s) {
			t.Errorf("twice: %x", s)
		}
	}
}

func TestP2_3Class(t *testing.T) {
	const marks = "!\"#$%&'()*+,-./:;<=>?@[\\]^_`{|}~"
	for _, x := range []struct{ name, bytes string }{
		{"upper", caps},
		{"lower", tiny},
		{"alpha", caps + tiny},
		{"digit", tens},
		{"alnum", caps + tiny + tens},
		{"xdigit", tens + "ABCDEFabcdef"},
		{"blank", "\t "},
		{"space", "\t\n\v\f\r "},
		{"cntrl", low + "\x7f"},
		{"graph", marks + caps + tiny + tens},
		{"print", " " + marks + caps + tiny + tens},
		{"punct", marks},
	} {
		s, ok := Class(x.name)
		if !ok {
			t.Error(x.name)
		}
		hold(t, x.name, s, func(b int) bool { return among(x.bytes, b) })
	}
}

func TestP2_3NoClass(t *testing.T) {
	for _, name := range []string{
		"", " ", "a", "Upper", "UPPER", "uppe", "upperr", " upper", "upper ", "upper\n", "upper\x00",
		"[:upper:]", ":upper:", "upper:", "word", "ascii", "letter", "any", "digits", "upperlower", "\xff",
	} {
		if s, ok := Class(name); ok || s != (Set{}) {
			t.Errorf("%q %x %v", name, s, ok)
		}
	}
}

func TestP2_4NotOfNot(t *testing.T) {
	for _, s := range samples() {
		if Not(Not(s)) != s {
			t.Errorf("%x %x", s, Not(Not(s)))
		}
	}
}

func TestP2_4EachByteIsInOne(t *testing.T) {
	for _, s := range samples() {
		for b := range 256 {
			if Has(s, byte(b)) == Has(Not(s), byte(b)) {
				t.Errorf("%x %d", s, b)
			}
		}
		if Or(s, Not(s)) != Of(every()) || Size(s)+Size(Not(s)) != 256 || Of(Bytes(s)) != s {
			t.Errorf("%x", s)
		}
	}
}
