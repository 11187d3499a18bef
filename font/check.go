package font

import (
	"slices"

	"abugida/api"
	"abugida/axes"
	"abugida/bound"
	"abugida/outline"
	"abugida/rules"
	"abugida/sets"
)

const (
	maxPairs = 60
	maxWidth = 128
	maxBy    = 64
	maxCode  = 255
	rootSize = 8
	// farthest is how far a point of a right glyph may be at any size: 128 units and 8 moves of 64, 32 times.
	farthest = 20480
)

// first returns the first error.
func first(checks ...func() api.Errno) api.Errno {
	for _, check := range checks {
		if e := check(); e != api.OK {
			return e
		}
	}
	return api.OK
}

// each returns the first error of an element.
func each[T any](l []T, check func(k int, x T) api.Errno) api.Errno {
	for k, x := range l {
		if e := check(k, x); e != api.OK {
			return e
		}
	}
	return api.OK
}

// unless returns an error, if something does not hold.
func unless(holds bool, e api.Errno) api.Errno {
	if holds {
		return api.OK
	}
	return e
}

func within(n, low, high int) bool { return n >= low && n <= high }

// isName asks axes for the name of an axis: the names of fonts are like them.
func isName(s string) bool { return axes.Check(api.Axis{Name: s}) != api.ErrName }

func checkAxis(c api.Core) func(int, api.Axis) api.Errno {
	return func(k int, a api.Axis) api.Errno {
		if e := axes.Check(a); e != api.OK {
			return e
		}
		twice := slices.ContainsFunc(c.Axes[:k], func(b api.Axis) bool { return b.Name == a.Name })
		return unless(!twice, api.ErrTwice)
	}
}

func checkChar(c api.Core) func(int, api.Char) api.Errno {
	return func(k int, x api.Char) api.Errno {
		regions := func() api.Errno {
			last := -1
			for _, g := range x.Wide {
				if g.Region <= last || g.Region >= len(c.Regions) {
					return api.ErrRegion
				}
				last = g.Region
			}
			return api.OK
		}
		growth := func(_ int, g api.Grow) api.Errno { return unless(within(g.By, -maxBy, maxBy), api.ErrRange) }
		return first(
			func() api.Errno { return unless(within(x.Code, 0, maxCode), api.ErrChar) },
			func() api.Errno { return unless(k == 0 || x.Code > c.Chars[k-1].Code, api.ErrSort) },
			func() api.Errno { return unless(within(x.Glyph, 0, c.Glyphs-1), api.ErrGlyph) },
			func() api.Errno { return unless(within(x.Width, 0, maxWidth), api.ErrRange) },
			regions,
			func() api.Errno { return each(x.Wide, growth) },
		)
	}
}

func checkPair(c api.Core) func(int, api.Pair) api.Errno {
	return func(k int, p api.Pair) api.Errno {
		if !within(p.Left, 0, maxCode) || !within(p.Right, 0, maxCode) {
			return api.ErrChar
		}
		if k > 0 {
			last := c.Pairs[k-1]
			if p.Left < last.Left || p.Left == last.Left && p.Right <= last.Right {
				return api.ErrSort
			}
		}
		return unless(within(p.By, -maxBy, maxBy), api.ErrRange)
	}
}

func checkHead(c api.Core) func(int, api.Head) api.Errno {
	return func(_ int, h api.Head) api.Errno {
		if !within(h.Feature, 0, api.Features-1) {
			return api.ErrRule
		}
		wrong := slices.ContainsFunc(h.First, func(n int) bool { return !within(n, 0, c.Glyphs-1) })
		return unless(sets.Right(h.First) && !wrong, api.ErrGlyph)
	}
}

// CheckCore returns what is wrong with a core.
func CheckCore(c api.Core) api.Errno {
	few := func() bool {
		return len(c.Axes) <= api.MaxAxes && len(c.Regions) <= api.MaxRegions && len(c.Pairs) <= maxPairs && len(c.Heads) <= api.MaxLookups && within(c.Glyphs, 1, api.MaxGlyphs)
	}
	region := func(_ int, r api.Region) api.Errno { return unless(axes.Right(r, len(c.Axes)), api.ErrRegion) }
	return first(
		func() api.Errno { return unless(isName(c.Name), api.ErrName) },
		func() api.Errno { return unless(within(c.Version, 1, api.MaxVersion), api.ErrVersion) },
		func() api.Errno { return unless(few(), api.ErrMany) },
		func() api.Errno { return each(c.Axes, checkAxis(c)) },
		func() api.Errno { return each(c.Regions, region) },
		func() api.Errno { return each(c.Chars, checkChar(c)) },
		func() api.Errno { return each(c.Pairs, checkPair(c)) },
		func() api.Errno { return each(c.Heads, checkHead(c)) },
		func() api.Errno { return unless(len(c.Root) == 0 || len(c.Root) == rootSize, api.ErrRoot) },
	)
}

// prove returns why the program of a glyph may fail.
func prove(g api.Glyph, axes int) api.Errno {
	if len(g.Program) == 0 {
		return api.OK
	}
	boxes := slices.Repeat([][4]int{{-farthest, -farthest, farthest, farthest}}, outline.Points(g))
	ranges := slices.Repeat([][2]int{{-api.One, api.One}}, axes)
	_, e := bound.Prove(g.Program, boxes, [2]int{api.MinSize, api.MaxSize}, ranges)
	return e
}

// Check returns what is wrong with a font.
func Check(f api.Font) api.Errno {
	c := f.Core
	lookup := func(k int, l api.Lookup) api.Errno {
		if e := rules.Check(l, k, len(f.Lookups), c.Glyphs); e != api.OK {
			return e
		}
		return unless(slices.Equal(c.Heads[k].First, rules.First(l)), api.ErrRule)
	}
	glyph := func(_ int, g api.Glyph) api.Errno {
		if e := outline.Check(g, len(c.Regions)); e != api.OK {
			return e
		}
		return prove(g, len(c.Axes))
	}
	return first(
		func() api.Errno { return CheckCore(c) },
		func() api.Errno {
			return unless(len(f.Lookups) == len(c.Heads) && len(f.Glyphs) == c.Glyphs, api.ErrMany)
		},
		func() api.Errno { return each(f.Lookups, lookup) },
		func() api.Errno { return each(f.Glyphs, glyph) },
	)
}
