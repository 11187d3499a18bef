package memory

import (
	"iter"
)

// A ring is a list whose end leads to its beginning. Its root has no value: behind it is the oldest element, before it
// the newest one.
type ring[T any] struct {
	value         T
	before, after *ring[T]
}

func newRing[T any]() *ring[T] {
	root := &ring[T]{}
	root.before, root.after = root, root
	return root
}

// add makes an element that is not in a ring the newest one.
func (root *ring[T]) add(e *ring[T]) {
	e.before, e.after = root.before, root
	e.before.after, root.before = e, e
}

// remove takes an element out of its ring.
func (e *ring[T]) remove() {
	e.before.after, e.after.before = e.after, e.before
}

// all yields the elements, the oldest one first; the one that is yielded may be removed.
func (root *ring[T]) all() iter.Seq[*ring[T]] {
	return func(yield func(*ring[T]) bool) {
		for e := root.after; e != root; {
			next := e.after
			if !yield(e) {
				return
			}
			e = next
		}
	}
}
