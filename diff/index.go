package diff

// An edge leads from a state to another one by a byte.
type edge struct {
	by byte
	to int
}

// A state of an index stands for all strings that end at the same places of the base. It knows the length of the
// longest of them, where they end first, and the state of the longest end of them that ends elsewhere, too.
type state struct {
	length, end, link int
	edges             []edge
}

// An index is the suffix automaton of a base: each string that stands in the base leads from the state 0 to one state.
// With it the longest copy is found in as many steps as it has bytes, also in a base that repeats itself.
type index []state

const none = -1

func (s *state) next(by byte) int {
	for _, e := range s.edges {
		if e.by == by {
			return e.to
		}
	}
	return none
}

func (s *state) set(by byte, to int) {
	for i := range s.edges {
		if s.edges[i].by == by {
			s.edges[i].to = to
			return
		}
	}
	s.edges = append(s.edges, edge{by, to})
}

// build returns the index of a base.
func build(base string) index {
	x := index{{link: none}}
	last := 0
	for i := range len(base) {
		last = x.extend(last, base[i], i+1)
	}
	return x
}

// extend adds a byte that ends at the place end, and returns the state of the whole string.
func (x *index) extend(last int, by byte, end int) int {
	whole := len(*x)
	*x = append(*x, state{length: (*x)[last].length + 1, end: end})
	p := last
	for p != none && (*x)[p].next(by) == none {
		(*x)[p].set(by, whole)
		p = (*x)[p].link
	}
	if p != none {
		(*x)[whole].link = x.split(p, by)
	}
	return whole
}

// split returns the state of the longest string of p with the byte behind it; it is parted from those that are longer.
func (x *index) split(p int, by byte) int {
	q := (*x)[p].next(by)
	if (*x)[q].length == (*x)[p].length+1 {
		return q
	}
	short := len(*x)
	*x = append(*x, state{length: (*x)[p].length + 1, end: (*x)[q].end, link: (*x)[q].link, edges: append([]edge{}, (*x)[q].edges...)})
	for p != none && (*x)[p].next(by) == q {
		(*x)[p].set(by, short)
		p = (*x)[p].link
	}
	(*x)[q].link = short
	return short
}

// longest returns the length of the longest beginning of s that stands in the base, and its least place.
func (x index) longest(s string) (place, n int) {
	at := 0
	for n < len(s) {
		next := x[at].next(s[n])
		if next == none {
			break
		}
		at = next
		n++
	}
	return x[at].end - n, n
}
