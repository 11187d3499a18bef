package scan

import (
	"cmp"
	"iter"
	"math/bits"

	"abugida/api"
)

// Coordinates within this file are in 1/128 pixels, so that the middle of two points has whole ones.
const fine = 2

type point struct{ x, y int }

// A piece is the curve from p to r with the control point q; a straight line has it in the middle, and is not curved.
type piece struct {
	p, q, r point
	curved  bool
}

// spot is an element of a contour, with the middles of neighbours that are not On put in.
type spot struct {
	point
	on bool
}

func spots(contour []api.Point) []spot {
	var l []spot
	for i, p := range contour {
		l = append(l, spot{point{fine * p.X, fine * p.Y}, p.On})
		next := contour[(i+1)%len(contour)]
		if !p.On && !next.On {
			l = append(l, spot{point{p.X + next.X, p.Y + next.Y}, true})
		}
	}
	return l
}

// pieces yields the pieces of a contour.
func pieces(contour []api.Point) iter.Seq[piece] {
	return func(yield func(piece) bool) {
		l := spots(contour)
		for i, s := range l {
			if !s.on {
				continue
			}
			next, after := l[(i+1)%len(l)], l[(i+2)%len(l)]
			one := piece{p: s.point, r: next.point}
			if !next.on {
				one = piece{p: s.point, q: next.point, r: after.point, curved: true}
			}
			if !yield(one) {
				return
			}
		}
	}
}

// A polynomial is a t^2 + b t + c.
type polynomial struct{ a, b, c int }

func (p piece) along(part func(point) int) polynomial {
	from, control, to := part(p.p), part(p.q), part(p.r)
	if !p.curved {
		return polynomial{b: to - from, c: from}
	}
	return polynomial{a: from - 2*control + to, b: 2 * (control - from), c: from}
}

// A crossing is where a part of a piece, on which y only increases or only decreases, has the y that is asked for.
// Its y is moved so that it is 0 there; of the two roots it is the one at which the derivative has the sign of turn.
type crossing struct {
	x, y polynomial
	turn int // 1 if y increases, -1 if it decreases
}

// crossings returns where the piece has this y, in 1/64 pixels.
func (p piece) crossings(y int) []crossing {
	fy := p.along(func(q point) int { return q.y })
	fy.c -= fine * y
	from, to := fy.c, fy.a+fy.b+fy.c
	var l []crossing
	add := func(turn int, begins, ends bool) {
		if begins && ends {
			fx := p.along(func(q point) int { return q.x })
			l = append(l, crossing{fx, fy, turn})
		}
	}
	if !fy.turns() {
		add(1, from <= 0, to > 0)
		add(-1, to <= 0, from > 0)
		return l
	}
	// The discriminant says on which side of the extreme the y is; a greatest y itself does not count.
	square := fy.b*fy.b - 4*fy.a*fy.c
	if fy.a > 0 {
		add(-1, square >= 0, from > 0)
		add(1, square >= 0, to > 0)
	} else {
		add(1, from <= 0, square > 0)
		add(-1, to <= 0, square > 0)
	}
	return l
}

// turns reports whether the polynomial has its extreme between 0 and 1.
func (f polynomial) turns() bool {
	if f.a > 0 {
		return f.b < 0 && -f.b < 2*f.a
	}
	return f.a < 0 && f.b > 0 && f.b < -2*f.a
}

// notBehind reports whether the point of the crossing has an x that is not greater than x, in 1/64 pixels.
func (k crossing) notBehind(x int) bool {
	f, g := k.y, k.x
	g.c -= fine * x
	if f.a == 0 {
		// t is -c / b: the sign is that of the value of g there, times b^2.
		return g.a*f.c*f.c-g.b*f.c*f.b+g.c*f.b*f.b <= 0
	}
	// t is (-b + turn s) / 2a with the root s of the discriminant. Without its square, g is (m t + n) / a,
	// which has the sign of 2an - mb + turn m s.
	m, n := f.a*g.b-g.a*f.b, f.a*g.c-g.a*f.c
	return rootSign(2*f.a*n-m*f.b, k.turn*m, f.b*f.b-4*f.a*f.c) <= 0
}

func magnitude(n int) uint64 { return uint64(max(n, -n)) }

// rootSign returns the sign of u + v s, where s is the root of square.
func rootSign(u, v, square int) int {
	// Both squares have up to 94 bits.
	compareSquares := func() int {
		uHigh, uLow := bits.Mul64(magnitude(u), magnitude(u))
		vHigh, vLow := bits.Mul64(magnitude(v), magnitude(v))
		over, low := bits.Mul64(vLow, uint64(square))
		high := vHigh*uint64(square) + over
		if uHigh != high {
			return cmp.Compare(uHigh, high)
		}
		return cmp.Compare(uLow, low)
	}
	first, second := cmp.Compare(u, 0), cmp.Compare(v, 0)
	if square == 0 {
		second = 0
	}
	if first*second >= 0 {
		return cmp.Compare(first+second, 0)
	}
	return first * compareSquares()
}

// first returns the first of the pixels from left on, width of them, whose middle is not before the crossing; width, if there is none.
func (k crossing) first(left, width int) int {
	low, high := 0, width
	for low < high {
		i := (low + high) / 2
		if k.notBehind(pixel*(left+i) + middle) {
			high = i
		} else {
			low = i + 1
		}
	}
	return low
}
