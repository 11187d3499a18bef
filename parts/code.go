package parts

import (
	"slices"
	"strings"

	"abugida/api"
	"abugida/wire"
)

// flat returns the numbers of all elements of l, one after the other.
func flat[T any](l []T, of func(T) []int) []int {
	var out []int
	for _, x := range l {
		out = append(out, of(x)...)
	}
	return out
}

// groups returns the elements of which each n numbers of l are one; what is left over at the end is none.
func groups[T any](l []int, n int, one func(l []int) T) []T {
	var out []T
	for ; len(l) >= n; l = l[n:] {
		out = append(out, one(l[:n]))
	}
	return out
}

// list returns how many elements there are, and each of them.
func list[T any](l []T, one func(T) string) string {
	var out strings.Builder
	out.WriteString(wire.Int(len(l)))
	for _, x := range l {
		out.WriteString(one(x))
	}
	return out.String()
}

// elements reads what list wrote, of elements that have a byte at least.
func elements[T any](r *wire.Reader, one func() T) []T {
	var l []T
	for n := r.Int(); len(l) < n && !r.Bad(); {
		l = append(l, one())
	}
	return l
}

func writeRule(r api.Rule) string {
	sets := func(l [][]int) string { return list(l, wire.Ints) }
	calls := flat(r.Calls, func(c api.Call) []int { return []int{c.At, c.Lookup} })
	return sets(r.Back) + sets(r.In) + sets(r.Ahead) + wire.Ints(r.Out) + wire.Ints(calls)
}

func writeLookup(l api.Lookup) string { return list(l.Rules, writeRule) }

func readLookup(r *wire.Reader) api.Lookup {
	sets := func() [][]int { return elements(r, r.Ints) }
	rule := func() api.Rule {
		x := api.Rule{Back: sets(), In: sets(), Ahead: sets(), Out: r.Ints()}
		x.Calls = groups(r.Ints(), 2, func(n []int) api.Call { return api.Call{At: n[0], Lookup: n[1]} })
		return x
	}
	return api.Lookup{Rules: elements(r, rule)}
}

func pointNumbers(p api.Point) []int {
	if p.On {
		return []int{p.X, p.Y, 1}
	}
	return []int{p.X, p.Y, 0}
}

func writeGlyph(g api.Glyph) string {
	contour := func(c []api.Point) string { return wire.Ints(flat(c, pointNumbers)) }
	anchors := flat(g.Anchors, func(a api.Anchor) []int { return []int{a.Class, a.X, a.Y} })
	program := flat(g.Program, func(i api.Ins) []int { return []int{i.Op, i.N} })
	regions := flat(g.Deltas, func(d api.Delta) []int { return []int{d.Region} })
	hang := wire.Int(g.Hang.Class) + wire.Int(g.Hang.X) + wire.Int(g.Hang.Y)
	return list(g.Contours, contour) + wire.Ints(anchors) + hang + wire.Int(g.Advance) + wire.Ints(program) + wire.Ints(regions)
}

func readGlyph(r *wire.Reader) api.Glyph {
	point := func(n []int) api.Point { return api.Point{X: n[0], Y: n[1], On: n[2] == 1} }
	anchor := func(n []int) api.Anchor { return api.Anchor{Class: n[0], X: n[1], Y: n[2]} }
	return api.Glyph{
		Contours: elements(r, func() []api.Point { return groups(r.Ints(), 3, point) }),
		Anchors:  groups(r.Ints(), 3, anchor),
		Hang:     anchor([]int{r.Int(), r.Int(), r.Int()}),
		Advance:  r.Int(),
		Program:  groups(r.Ints(), 2, func(n []int) api.Ins { return api.Ins{Op: n[0], N: n[1]} }),
		Deltas:   groups(r.Ints(), 1, func(n []int) api.Delta { return api.Delta{Region: n[0]} }),
	}
}

func writeDelta(d api.Delta) string {
	return wire.Int(d.Advance) + wire.Ints(flat(d.Moves, func(m [2]int) []int { return m[:] }))
}

func readDelta(r *wire.Reader, region int) api.Delta {
	return api.Delta{Region: region, Advance: r.Int(), Moves: groups(r.Ints(), 2, func(n []int) [2]int { return [2]int{n[0], n[1]} })}
}

func each[T any](l []T, one func(T) T) []T {
	out := make([]T, 0, len(l))
	for _, x := range l {
		out = append(out, one(x))
	}
	return out
}

func cloneSet(l []int) []int                 { return slices.Clone(l) }
func cloneSets(l [][]int) [][]int            { return each(l, cloneSet) }
func cloneContour(l []api.Point) []api.Point { return slices.Clone(l) }

func cloneRule(r api.Rule) api.Rule {
	return api.Rule{Back: cloneSets(r.Back), In: cloneSets(r.In), Ahead: cloneSets(r.Ahead), Out: slices.Clone(r.Out), Calls: slices.Clone(r.Calls)}
}

func cloneGlyph(g api.Glyph) api.Glyph {
	out := api.Glyph{Contours: each(g.Contours, cloneContour), Anchors: slices.Clone(g.Anchors), Hang: g.Hang, Advance: g.Advance, Program: slices.Clone(g.Program)}
	out.Deltas = each(g.Deltas, func(d api.Delta) api.Delta {
		return api.Delta{Region: d.Region, Advance: d.Advance, Moves: slices.Clone(d.Moves)}
	})
	return out
}

// clone returns a font that shares no memory with f.
func clone(f api.Font) api.Font {
	c := f.Core
	c.Axes = each(c.Axes, func(a api.Axis) api.Axis {
		a.Map = slices.Clone(a.Map)
		return a
	})
	c.Regions = each(c.Regions, func(r api.Region) api.Region { return api.Region{Tents: slices.Clone(r.Tents)} })
	c.Chars = each(c.Chars, func(x api.Char) api.Char {
		x.Wide = slices.Clone(x.Wide)
		return x
	})
	c.Pairs = slices.Clone(c.Pairs)
	c.Heads = each(c.Heads, func(h api.Head) api.Head { return api.Head{Feature: h.Feature, First: slices.Clone(h.First)} })
	lookups := each(f.Lookups, func(l api.Lookup) api.Lookup { return api.Lookup{Rules: each(l.Rules, cloneRule)} })
	return api.Font{Core: c, Lookups: lookups, Glyphs: each(f.Glyphs, cloneGlyph)}
}
