package match

import "math/bits"

// places is a set of places of one text: place p is in it, if bit p modulo 64 of its word p / 64 is 1.
type places []uint64

// newPlaces is a set for the places 0 to n, with none in it.
func newPlaces(n int) places { return make(places, n/64+1) }

func (s places) put(p int) { s[p/64] |= 1 << (p % 64) }

func (s places) has(p int) bool { return s[p/64]>>(p%64)&1 == 1 }

// join puts all of o, which is of the same text.
func (s places) join(o places) {
	for i, word := range o {
		s[i] |= word
	}
}

// from is the least place from p on; -1, if there is none.
func (s places) from(p int) int {
	for i := p / 64; i < len(s); i++ {
		word := s[i]
		if i == p/64 {
			word &= ^uint64(0) << (p % 64)
		}
		if word != 0 {
			return 64*i + bits.TrailingZeros64(word)
		}
	}
	return -1
}

// upTo is the greatest place up to p; -1, if there is none.
func (s places) upTo(p int) int {
	if p < 0 {
		return -1
	}
	for i := p / 64; i >= 0; i-- {
		word := s[i]
		if i == p/64 {
			word &= ^uint64(0) >> (63 - p%64)
		}
		if word != 0 {
			return 64*i + bits.Len64(word) - 1
		}
	}
	return -1
}
