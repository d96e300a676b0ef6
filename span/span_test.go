package span

import (
	"math"
	"testing"

	"calender/api"
)

const most = api.MaxNumber

// others are complex numbers that are no spans, each for a reason of its own.
func others() []complex128 {
	nan, inf := math.NaN(), math.Inf(1)
	return []complex128{
		None(), -1 + 2i, 1 - 1i, -1 - 5i, 3 + 1i, most + 0i,
		0.5 + 1i, 1 + 1.5i, 0.5 + 0.5i, 1e-300 + 1i, complex(0, most-0.5),
		complex(0, most+1), complex(most+1, most+1), complex(0, most+0.5), 1e300i,
		complex(nan, 1), complex(0, nan), complex(nan, nan),
		complex(0, inf), complex(inf, inf), complex(-inf, 1), complex(1, -inf),
	}
}

// each tells all pairs of numbers from a to b, whether they are spans or not.
func each(a, b int, tell func(x, y int)) {
	for x := a; x <= b; x++ {
		for y := a; y <= b; y++ {
			tell(x, y)
		}
	}
}

// spans are all spans of the numbers 0 to n.
func spans(n int) []complex128 {
	var l []complex128
	each(0, n, func(a, b int) {
		if a <= b {
			l = append(l, complex(float64(a), float64(b)))
		}
	})
	return l
}

// isIn tells whether byte k is in s, by the words of the document.
func isIn(s complex128, k int) bool { return float64(k) >= real(s) && float64(k) < imag(s) }

func TestP1_1Of(t *testing.T) {
	each(-3, 6, func(a, b int) {
		s, ok := Of(a, b)
		if is := 0 <= a && a <= b; ok != is || is && s != complex(float64(a), float64(b)) || !is && s != -1-1i {
			t.Error(a, b, s, ok)
		}
	})
}

func TestP1_1OfEdges(t *testing.T) {
	for _, x := range []struct {
		a, b int
		want complex128
		ok   bool
	}{
		{1, 3, 1 + 3i, true},
		{0, 0, 0, true},
		{0, most, most * 1i, true},
		{most, most, most + most*1i, true},
		{most - 1, most, most - 1 + most*1i, true},
		{most, most - 1, -1 - 1i, false},
		{0, most + 1, -1 - 1i, false},
		{most + 1, most + 1, -1 - 1i, false},
		{-1, -1, -1 - 1i, false},
		{-1, most, -1 - 1i, false},
		{math.MinInt, math.MaxInt, -1 - 1i, false},
		{math.MinInt, math.MinInt, -1 - 1i, false},
		{math.MaxInt, math.MaxInt, -1 - 1i, false},
		{0, math.MaxInt, -1 - 1i, false},
		{0, math.MinInt, -1 - 1i, false},
	} {
		if s, ok := Of(x.a, x.b); s != x.want || ok != x.ok {
			t.Error(x.a, x.b, s, ok)
		}
	}
}

func TestP1_1None(t *testing.T) {
	if None() != -1-1i || May(None()) {
		t.Error(None(), May(None()))
	}
}

func TestP1_1May(t *testing.T) {
	for _, s := range append(spans(5), most*1i, most+most*1i, complex(math.Copysign(0, -1), 0)) {
		if !May(s) {
			t.Error(s)
		}
	}
	for _, s := range others() {
		if May(s) {
			t.Error(s)
		}
	}
}

func TestP1_2Places(t *testing.T) {
	for _, s := range append(spans(6), most*1i, most+most*1i, 7+most*1i) {
		a, b := int(real(s)), int(imag(s))
		if From(s) != a || To(s) != b || Len(s) != b-a {
			t.Error(s, From(s), To(s), Len(s))
		}
	}
	for _, s := range others() {
		if From(s) != -1 || To(s) != -1 || Len(s) != 0 {
			t.Error(s, From(s), To(s), Len(s))
		}
	}
}

func TestP1_2Shift(t *testing.T) {
	for _, s := range spans(4) {
		for n := -6; n <= 6; n++ {
			want, _ := Of(int(real(s))+n, int(imag(s))+n)
			if Shift(s, n) != want {
				t.Error(s, n, Shift(s, n))
			}
		}
	}
}

func TestP1_2ShiftEdges(t *testing.T) {
	for _, x := range []struct {
		s    complex128
		n    int
		want complex128
	}{
		{1 + 3i, most - 3, most - 2 + most*1i},
		{1 + 3i, most - 2, -1 - 1i},
		{0, most, most + most*1i},
		{0, most + 1, -1 - 1i},
		{most + most*1i, -most, 0},
		{most + most*1i, -most - 1, -1 - 1i},
		{most * 1i, 0, most * 1i},
		{most * 1i, 1, -1 - 1i},
		{most * 1i, -1, -1 - 1i},
		{1 + 3i, math.MaxInt, -1 - 1i},
		{1 + 3i, math.MaxInt - 1, -1 - 1i},
		{1 + 3i, math.MinInt, -1 - 1i},
		{most + most*1i, math.MaxInt, -1 - 1i},
		{most + most*1i, math.MinInt, -1 - 1i},
	} {
		if Shift(x.s, x.n) != x.want {
			t.Error(x.s, x.n, Shift(x.s, x.n))
		}
	}
}

func TestP1_2ShiftOfNone(t *testing.T) {
	for _, s := range others() {
		// -1 - i and 2 further would be 1 + i: what is none stays none.
		for _, n := range []int{0, 1, 2, 5, -1, math.MaxInt, math.MinInt} {
			if Shift(s, n) != -1-1i {
				t.Error(s, n, Shift(s, n))
			}
		}
	}
}

func TestP1_3Hull(t *testing.T) {
	for _, a := range spans(5) {
		for _, b := range spans(5) {
			h := Hull(a, b)
			if !May(h) || real(h) != math.Min(real(a), real(b)) || imag(h) != math.Max(imag(a), imag(b)) {
				t.Error(a, b, h)
			}
		}
	}
	if Hull(0, most+most*1i) != most*1i || Hull(most+most*1i, 0) != most*1i {
		t.Error("from the one end to the other one")
	}
}

func TestP1_3HullOfNone(t *testing.T) {
	for _, n := range others() {
		for _, s := range append(spans(3), most+most*1i) {
			if Hull(n, s) != s || Hull(s, n) != s {
				t.Error(n, s, Hull(n, s), Hull(s, n))
			}
		}
		for _, m := range others() {
			if Hull(n, m) != -1-1i {
				t.Error(n, m, Hull(n, m))
			}
		}
	}
}

func TestP1_3Meet(t *testing.T) {
	for _, a := range spans(5) {
		for _, b := range spans(5) {
			want := false
			for k := range 5 {
				want = want || isIn(a, k) && isIn(b, k)
			}
			if Meet(a, b) != want {
				t.Error(a, b, Meet(a, b))
			}
		}
	}
	if !Meet(most*1i, most-1+most*1i) || Meet(most*1i, most+most*1i) || Meet((most-1)*1i, most-1+most*1i) {
		t.Error("at the greatest end")
	}
}

func TestP1_3MeetOfNone(t *testing.T) {
	for _, n := range others() {
		for _, s := range append(spans(3), most*1i, n) {
			if Meet(n, s) || Meet(s, n) {
				t.Error(n, s)
			}
		}
	}
}

func TestP1_4Cut(t *testing.T) {
	for _, text := range []string{"", "a", "hello", "\x00\n\xff\x80", "\xc3\xa4\xc3\xb6"} {
		for _, s := range append(spans(8), most*1i, most-1+most*1i, most+most*1i) {
			want := ""
			for k := range len(text) {
				if isIn(s, k) {
					want += text[k : k+1]
				}
			}
			if Cut(text, s) != want {
				t.Errorf("%q %v %q", text, s, Cut(text, s))
			}
		}
		for _, s := range others() {
			if Cut(text, s) != "" {
				t.Errorf("%q %v %q", text, s, Cut(text, s))
			}
		}
	}
	if Cut("hello", 1+3i) != "el" {
		t.Error("the example")
	}
}

func TestP1_5PutTogether(t *testing.T) {
	for _, text := range []string{"", "a", "hello", "a\nb\xff\x00"} {
		for _, s := range spans(8) {
			for k := From(s); k <= To(s); k++ {
				left, isLeft := Of(From(s), k)
				right, isRight := Of(k, To(s))
				if !isLeft || !isRight || Cut(text, left)+Cut(text, right) != Cut(text, s) {
					t.Errorf("%q %v %v", text, s, k)
				}
				if Hull(left, right) != s || Meet(left, right) || Len(left)+Len(right) != Len(s) {
					t.Error(s, k)
				}
			}
		}
	}
}
