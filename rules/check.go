package rules

import (
	"slices"

	"abugida/api"
	"abugida/sets"
)

// sequences returns all sets of a rule.
func sequences(r api.Rule) [][]int { return slices.Concat(r.Back, r.In, r.Ahead) }

// checkRule returns what is wrong with a rule of the lookup k.
func checkRule(r api.Rule, k, lookups, glyphs int) api.Errno {
	if len(r.In) < 1 || len(r.In) > api.MaxIn || len(r.Back) > api.MaxContext || len(r.Ahead) > api.MaxContext ||
		len(r.Out) > api.MaxOut || len(r.Calls) > api.MaxCalls || len(r.Calls) > 0 && len(r.Out) > 0 {
		return api.ErrRule
	}
	isNoSet := func(l []int) bool { return len(l) == 0 || !sets.Right(l) }
	isNoGlyph := func(n int) bool { return n < 0 || n >= glyphs }
	hasNoGlyph := func(l []int) bool { return slices.ContainsFunc(l, isNoGlyph) }
	isNoCall := func(c api.Call) bool {
		return c.At < 0 || c.At >= len(r.In) || c.Lookup <= k || c.Lookup >= lookups
	}
	switch all := sequences(r); {
	case slices.ContainsFunc(all, isNoSet):
		return api.ErrRule
	case slices.ContainsFunc(all, hasNoGlyph) || hasNoGlyph(r.Out):
		return api.ErrGlyph
	case slices.ContainsFunc(r.Calls, isNoCall):
		return api.ErrCall
	}
	return api.OK
}

// Check returns what is wrong with the lookup k of a font with this number of lookups and glyphs.
func Check(l api.Lookup, k, lookups, glyphs int) api.Errno {
	if lookups < 1 || lookups > api.MaxLookups || k < 0 || k >= lookups || glyphs < 1 || glyphs > api.MaxGlyphs {
		return api.ErrArg
	}
	if len(l.Rules) > api.MaxRules {
		return api.ErrMany
	}
	for _, r := range l.Rules {
		if e := checkRule(r, k, lookups, glyphs); e != api.OK {
			return e
		}
	}
	return api.OK
}

// First returns all glyphs with which a rule of l can begin.
func First(l api.Lookup) []int {
	var all []int
	for _, r := range l.Rules {
		if len(r.In) > 0 {
			all = append(all, r.In[0]...)
		}
	}
	return sets.Norm(all)
}
