package panel

import (
	"iter"
	"math/bits"

	"abugida/api"
)

// around returns the least rectangle that contains all of these.
func around(first api.Rect, others ...api.Rect) api.Rect {
	all := first
	for _, r := range others {
		x, y := min(all.X, r.X), min(all.Y, r.Y)
		all = api.Rect{X: x, Y: y, W: max(all.X+all.W, r.X+r.W) - x, H: max(all.Y+all.H, r.Y+r.H) - y}
	}
	return all
}

func area(r api.Rect) int { return r.W * r.H }

// differences returns the pixels that differ in each row.
func differences(old, next []uint64, w int) []uint64 {
	l := make([]uint64, len(old))
	for k := range l {
		l[k] = (old[k] ^ next[k]) & mask(w)
	}
	return l
}

// pieces yields the longest pieces of neighbouring rows that all have pixels: the first row, and the one behind the last.
func pieces(rows []uint64) iter.Seq2[int, int] {
	return func(yield func(from, to int) bool) {
		for from := 0; from < len(rows); from++ {
			to := from
			for to < len(rows) && rows[to] != 0 {
				to++
			}
			if to > from && !yield(from, to) {
				return
			}
			from = to
		}
	}
}

// box returns the least rectangle that contains all pixels of rows that have some.
func box(rows []uint64, from, to int) api.Rect {
	var l []api.Rect
	for k := from; k < to; k++ {
		x := bits.TrailingZeros64(rows[k])
		l = append(l, api.Rect{X: x, Y: k, W: bits.Len64(rows[k]) - x, H: 1})
	}
	return around(l[0], l[1:]...)
}

// joinCheapest replaces the two neighbours that lose the least by the rectangle around both.
func joinCheapest(l []api.Rect) []api.Rect {
	loss := func(i int) int { return area(around(l[i], l[i+1])) - area(l[i]) - area(l[i+1]) }
	best := 0
	for i := 1; i+1 < len(l); i++ {
		if loss(i) < loss(best) {
			best = i
		}
	}
	joined := append([]api.Rect{}, l[:best]...)
	joined = append(joined, around(l[best], l[best+1]))
	return append(joined, l[best+2:]...)
}

// Plan returns at most this many rectangles whose writing leads from old to next.
func Plan(old, next []uint64, w, most int) []api.Rect {
	if w < 1 || w > maxSide || len(old) != len(next) || len(old) > maxSide || most < 1 {
		return nil
	}
	rows := differences(old, next, w)
	var l []api.Rect
	for from, to := range pieces(rows) {
		l = append(l, box(rows, from, to))
	}
	for len(l) > most {
		l = joinCheapest(l)
	}
	return l
}
