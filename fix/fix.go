// Package fix is layer 1: see shared/doc/01-fix.md.
package fix

import (
	"abugida/api"
)

// maxDen is the greatest denominator of a right scalar: three strengths of 1/64.
const maxDen = 262144

// A rounding decides, from what is left of a quotient that was rounded down, whether it becomes one more.
type rounding struct {
	more func(rest, d int) bool
}

func nearest() rounding {
	// The rest is compared with what is missing to d, because twice the rest may not be an int.
	return rounding{more: func(rest, d int) bool { return rest >= d-rest }}
}

func downward() rounding {
	return rounding{more: func(rest, d int) bool { return false }}
}

func upward() rounding {
	return rounding{more: func(rest, d int) bool { return rest > 0 }}
}

// divide needs a positive d.
func (r rounding) divide(n, d int) int {
	quotient, rest := n/d, n%d
	if rest < 0 {
		quotient--
		rest += d
	}
	if r.more(rest, d) {
		quotient++
	}
	return quotient
}

func quotient(n, d int, r rounding) (int, bool) {
	if d < 1 {
		return 0, false
	}
	return r.divide(n, d), true
}

// Round returns n / d rounded to the nearest number, and of two to the greater one.
func Round(n, d int) (int, bool) { return quotient(n, d, nearest()) }

// Down returns n / d rounded down.
func Down(n, d int) (int, bool) { return quotient(n, d, downward()) }

// Up returns n / d rounded up.
func Up(n, d int) (int, bool) { return quotient(n, d, upward()) }

// small reports whether all numbers are small.
func small(l ...int) bool {
	for _, n := range l {
		if n < -api.MaxValue || n > api.MaxValue {
			return false
		}
	}
	return true
}

func divisor[T int | int64](a, b T) T {
	for b != 0 {
		a, b = b, a%b
	}
	return a
}

func right(s api.Scalar) bool {
	return s.Den >= 1 && s.Den <= maxDen && s.Num >= 0 && s.Num <= s.Den && divisor(s.Num, s.Den) == 1
}

// Mul returns the product of two numbers in 1/64, rounded.
func Mul(a, b int) (int, bool) {
	if !small(a, b) {
		return 0, false
	}
	return Round(a*b, 64)
}

// Part returns 64 times a times s, rounded.
func Part(a int, s api.Scalar) (int, bool) {
	if !small(a) || !right(s) {
		return 0, false
	}
	return Round(64*a*s.Num, s.Den)
}

// Times returns the right scalar that is the product of both.
func Times(a, b api.Scalar) (api.Scalar, bool) {
	if !right(a) || !right(b) {
		return api.Scalar{}, false
	}
	num, den := a.Num*b.Num, a.Den*b.Den
	common := divisor(num, den)
	product := api.Scalar{Num: num / common, Den: den / common}
	if !right(product) {
		return api.Scalar{}, false
	}
	return product, true
}

// Line returns the value at x of the straight line through both points.
func Line(x int, from, to [2]int) (int, bool) {
	if !small(x, from[0], from[1], to[0], to[1]) || from[0] >= to[0] || x < from[0] || x > to[0] {
		return 0, false
	}
	wide := to[0] - from[0]
	return Round(from[1]*wide+(to[1]-from[1])*(x-from[0]), wide)
}

// Clamp returns the greater one of low, and the lesser one of a and high.
func Clamp(a, low, high int) int { return max(low, min(a, high)) }
