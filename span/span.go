// Package span is layer 1: parts of texts, as complex numbers (see shared/doc/01-span.md).
package span

import (
	"math"

	"calender/api"
)

// Of is the span from a to b, and true; None and false, if it is none.
func Of(a, b int) (complex128, bool) {
	if a < 0 || a > b || b > api.MaxNumber {
		goto none
	}
	return complex(float64(a), float64(b)), true
none:
	return None(), false
}

// None is -1 - i, which is no span.
func None() complex128 { return -1 - 1i }

// May tells whether s is a span.
func May(s complex128) bool {
	a, b := real(s), imag(s)
	// All comparisons are false of what is not a number, so the range is asked for, not its opposite.
	return a >= 0 && a <= b && b <= api.MaxNumber && isWhole(a) && isWhole(b)
}

func isWhole(x float64) bool { return math.Trunc(x) == x }

// From is where s begins; -1, if it is none.
func From(s complex128) int {
	if !May(s) {
		goto none
	}
	return int(real(s))
none:
	return -1
}

// To is where s ends; -1, if it is none.
func To(s complex128) int {
	if !May(s) {
		goto none
	}
	return int(imag(s))
none:
	return -1
}

// Len is how many bytes s has; 0, if it is none.
func Len(s complex128) int { return To(s) - From(s) }

// Shift is s, n places further on; None, if one of them is no span.
func Shift(s complex128, n int) complex128 {
	// What is none, or would leave the range, is held against n before any sum, which could wrap round.
	if !May(s) || n < -From(s) || n > api.MaxNumber-To(s) {
		goto none
	}
	return s + complex(float64(n), float64(n))
none:
	return None()
}

// Hull is the least span that has both; the other one, if one is none; None, if both are.
func Hull(a, b complex128) complex128 {
	if !May(a) {
		a, b = b, a
	}
	if !May(a) {
		goto none
	}
	if !May(b) {
		return a
	}
	return complex(min(real(a), real(b)), max(imag(a), imag(b)))
none:
	return None()
}

// Meet tells whether both are spans, and a byte is in both.
func Meet(a, b complex128) bool {
	return May(a) && May(b) && max(real(a), real(b)) < min(imag(a), imag(b))
}

// Cut is the bytes of t in s, those that there are; "", if s is none.
func Cut(t string, s complex128) string {
	if !May(s) {
		goto none
	}
	return t[min(From(s), len(t)):min(To(s), len(t))]
none:
	return ""
}
