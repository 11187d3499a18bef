package known

import (
	"slices"

	"abugida/api"
	"abugida/bound"
	"abugida/outline"
	"abugida/rules"
)

// farthest is how far a point of a right glyph may be at any size and any coordinates.
const farthest = 20480

// A kind of parts has what one of them has to fit.
type kind struct {
	fits func(c api.Core, p api.Part) api.Errno
}

func kinds() map[int]kind {
	return map[int]kind{
		api.KindLookup: {fits: fitsLookup},
		api.KindGlyph:  {fits: fitsGlyph},
		api.KindDelta:  {fits: fitsDelta},
	}
}

func fitsLookup(c api.Core, p api.Part) api.Errno {
	n := p.Key.N
	if n >= len(c.Heads) {
		return api.ErrKey
	}
	if e := rules.Check(p.Lookup, n, len(c.Heads), c.Glyphs); e != api.OK {
		return e
	}
	if !slices.Equal(rules.First(p.Lookup), c.Heads[n].First) {
		return api.ErrRule
	}
	return api.OK
}

func fitsGlyph(c api.Core, p api.Part) api.Errno {
	if p.Key.N >= c.Glyphs {
		return api.ErrKey
	}
	g := p.Glyph
	g.Deltas = nil
	if e := outline.Check(g, 0); e != api.OK {
		return e
	}
	last := -1
	for _, d := range p.Glyph.Deltas {
		if d.Region <= last || d.Region >= len(c.Regions) {
			return api.ErrDelta
		}
		last = d.Region
	}
	return prove(g, c)
}

// prove returns why the program of a glyph may fail.
func prove(g api.Glyph, c api.Core) api.Errno {
	if len(g.Program) == 0 {
		return api.OK
	}
	boxes := slices.Repeat([][4]int{{-farthest, -farthest, farthest, farthest}}, outline.Points(g))
	_, e := bound.Prove(g.Program, boxes, [2]int{api.MinSize, api.MaxSize}, everywhere(c))
	return e
}

func isMove(n int) bool { return n >= -api.MaxMove && n <= api.MaxMove }

func fitsDelta(c api.Core, p api.Part) api.Errno {
	if p.Key.N >= c.Glyphs || p.Key.Region >= len(c.Regions) {
		return api.ErrKey
	}
	tooFar := func(m [2]int) bool { return !isMove(m[0]) || !isMove(m[1]) }
	if !isMove(p.Delta.Advance) || slices.ContainsFunc(p.Delta.Moves, tooFar) {
		return api.ErrDelta
	}
	return api.OK
}
