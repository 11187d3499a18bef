package check

import (
	"iter"
	"slices"

	"abugida/api"
	"abugida/axes"
	"abugida/font"
	"abugida/rules"
	"abugida/sets"
)

const (
	byChar = 1 // reasons of a step
	byRule = 2
)

// A failure is what is wrong with what is checked.
type failure struct{ errno api.Errno }

func require(holds bool, e api.Errno) {
	if !holds {
		panic(failure{e})
	}
}

func pass(e api.Errno) { require(e == api.OK, e) }

// caught returns the error with which do has failed.
func caught(do func()) (e api.Errno) {
	defer func() {
		if r := recover(); r != nil {
			e = api.ErrArg
			if f, ok := r.(failure); ok {
				e = f.errno
			}
		}
	}()
	do()
	return api.OK
}

// A set of glyphs that are reached.
type glyphs map[int]bool

func (g glyphs) touch(set []int) bool {
	return slices.ContainsFunc(set, func(n int) bool { return g[n] })
}

func (g glyphs) canFire(r api.Rule) bool {
	for _, sequence := range [][][]int{r.Back, r.In, r.Ahead} {
		for _, set := range sequence {
			if !g.touch(set) {
				return false
			}
		}
	}
	return true
}

// A proof is what Closed looks at.
type proof struct {
	core    api.Core
	request api.Request
	given   map[int]api.Lookup
	active  map[int]bool
	reached glyphs // by all steps
}

// firing yields the rules of a lookup that is given, which can fire.
func (p proof) firing(lookup int) iter.Seq[api.Rule] {
	return func(yield func(api.Rule) bool) {
		for _, r := range p.given[lookup].Rules {
			if p.reached.canFire(r) && !yield(r) {
				return
			}
		}
	}
}

func areSizes(sizes [2]int) bool {
	return sizes[0] >= api.MinSize && sizes[0] <= sizes[1] && sizes[1] <= api.MaxSize
}

func (p proof) checkRequest() {
	q := p.request
	isNoChar := func(code int) bool { return code < 0 || code > 255 }
	require(sets.Right(q.Chars) && !slices.ContainsFunc(q.Chars, isNoChar), api.ErrArg)
	require(areSizes(q.Sizes) && axes.Ranges(q.Axes, len(p.core.Axes)), api.ErrArg)
}

// take takes the lookups that are given.
func (p proof) take(lookups []api.Part) {
	for _, l := range lookups {
		n, heads := l.Key.N, p.core.Heads
		require(l.Key.Kind == api.KindLookup && n >= 0 && n < len(heads) && l.Key.Region == 0, api.ErrKey)
		_, twice := p.given[n]
		require(!twice, api.ErrTwice)
		pass(rules.Check(l.Lookup, n, len(heads), p.core.Glyphs))
		require(slices.Equal(rules.First(l.Lookup), heads[n].First), api.ErrRule)
		p.given[n] = l.Lookup
	}
}

// activate finds the active lookups. A lookup calls only those behind it, so that one look at each is enough.
func (p proof) activate() {
	for n, h := range p.core.Heads {
		if h.Feature < api.Wanted || p.request.Features>>h.Feature&1 == 1 {
			p.active[n] = true
		}
		if !p.active[n] {
			continue
		}
		for r := range p.firing(n) {
			for _, c := range r.Calls {
				p.active[c.Lookup] = true
			}
		}
	}
}

// isReason reports whether a step is a reason behind those that have reached before.
func (p proof) isReason(s api.Step, before glyphs) bool {
	if before[s.Glyph] {
		return false
	}
	if s.Why == byChar {
		if s.Rule != 0 || s.Out != 0 {
			return false
		}
		g, has := font.Glyph(p.core, s.N)
		return s.N == -1 && s.Glyph == 0 || sets.Has(p.request.Chars, s.N) && has && g == s.Glyph
	}
	l, given := p.given[s.N]
	if s.Why != byRule || !given || !p.active[s.N] || s.Rule < 0 || s.Rule >= len(l.Rules) {
		return false
	}
	r := l.Rules[s.Rule]
	return before.canFire(r) && s.Out >= 0 && s.Out < len(r.Out) && r.Out[s.Out] == s.Glyph
}

func (p proof) checkSteps(steps []api.Step) {
	before := glyphs{}
	for _, s := range steps {
		require(p.isReason(s, before), api.ErrStep)
		before[s.Glyph] = true
	}
}

// checkClosed looks whether nothing more is reached.
func (p proof) checkClosed() {
	require(p.reached[0], api.ErrNeed)
	for _, code := range p.request.Chars {
		g, has := font.Glyph(p.core, code)
		require(!has || p.reached[g], api.ErrNeed)
	}
	for n, h := range p.core.Heads {
		if !p.active[n] {
			continue
		}
		_, given := p.given[n]
		require(given || !p.reached.touch(h.First), api.ErrNeed)
		for r := range p.firing(n) {
			for _, g := range r.Out {
				require(p.reached[g], api.ErrNeed)
			}
		}
	}
}

// Closed returns what is wrong with the steps of a closure and the lookups that are given for it.
func Closed(c api.Core, q api.Request, lookups []api.Part, steps []api.Step) api.Errno {
	p := proof{core: c, request: q, given: map[int]api.Lookup{}, active: map[int]bool{}, reached: glyphs{}}
	for _, s := range steps {
		p.reached[s.Glyph] = true
	}
	return caught(func() {
		pass(font.CheckCore(c))
		p.checkRequest()
		p.take(lookups)
		p.activate()
		p.checkSteps(steps)
		p.checkClosed()
	})
}
