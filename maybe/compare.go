package maybe

import (
	"abugida/api"
	"abugida/sets"
)

// What a comparison says.
const (
	no = iota
	perhaps
	yes
)

// gap reports whether a cluster between two neighbours is uncertain; left is -1 for the left end, right the number of
// items for the right end.
func (s *shaper) gap(left, right int) bool {
	from, to := -1, len(s.certain)
	if left >= 0 {
		from = s.items[left].Cluster
	}
	if right < len(s.items) {
		to = s.items[right].Cluster
	}
	for c := from + 1; c < to; c++ {
		if !s.certain[c] {
			return true
		}
	}
	return false
}

// along compares sets with the items from the one next to at on, in the direction of step.
func (s *shaper) along(l [][]int, at, step int) int {
	for _, set := range l {
		next := at + step
		if s.gap(min(at, next), max(at, next)) {
			return perhaps
		}
		if next < 0 || next >= len(s.items) || !sets.Has(set, s.items[next].Glyph) {
			return no
		}
		at = next
	}
	return yes
}

// compare says whether a rule matches at an item.
func (s *shaper) compare(r api.Rule, at int) int {
	if at+len(r.In) > len(s.items) {
		return no
	}
	for k, set := range r.In {
		i := s.items[at+k]
		if i.Cluster != s.items[at].Cluster || !sets.Has(set, i.Glyph) {
			return no
		}
	}
	back := s.along(r.Back, at, -1)
	ahead := s.along(r.Ahead, at+len(r.In)-1, 1)
	return min(back, ahead)
}
