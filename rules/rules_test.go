package rules

import (
	"math"
	"math/rand"
	"slices"
	"testing"

	"abugida/api"
)

func set(l ...int) [][]int {
	var out [][]int
	for _, n := range l {
		out = append(out, []int{n})
	}
	return out
}

func rule(back, in, ahead [][]int, out ...int) api.Rule {
	return api.Rule{Back: back, In: in, Ahead: ahead, Out: out}
}

func call(back, in, ahead [][]int, calls ...api.Call) api.Rule {
	return api.Rule{Back: back, In: in, Ahead: ahead, Calls: calls}
}

func lookup(l ...api.Rule) api.Lookup { return api.Lookup{Rules: l} }

// items are glyphs, all in the cluster 0.
func items(l ...int) (out []api.Item) {
	for _, n := range l {
		out = append(out, api.Item{Glyph: n})
	}
	return out
}

func example() []api.Lookup {
	return []api.Lookup{
		lookup(call(set(9), set(1, 2), nil, api.Call{At: 1, Lookup: 1}), rule(nil, set(1), nil, 7)),
		lookup(rule(nil, set(2, 3), nil, 8)),
	}
}

// P16.1
func TestCheck(t *testing.T) {
	right := rule(nil, set(1), nil, 2)
	nine := make([]api.Rule, 9)
	for k, x := range []struct {
		l                  api.Lookup
		k, lookups, glyphs int
		want               api.Errno
	}{
		{lookup(rule(nil, set(0), nil, 0)), 0, 1, 1, api.OK}, {lookup(right), 0, 1, 3, api.OK}, {lookup(), 11, 12, 100, api.OK}, {lookup(nine...), 0, 0, 9, api.ErrArg}, {lookup(right), 0, 13, 9, api.ErrArg}, {lookup(right), -1, 1, 9, api.ErrArg}, {lookup(right), 1, 1, 9, api.ErrArg}, {lookup(right), 0, 1, 0, api.ErrArg}, {lookup(right), 0, 1, 101, api.ErrArg},
		{lookup(nine...), 0, 1, 9, api.ErrMany}, {lookup(slices.Repeat([]api.Rule{right}, 8)...), 0, 1, 9, api.OK},
		{lookup(rule(nil, nil, nil)), 0, 1, 9, api.ErrRule}, {lookup(rule(nil, set(1, 1, 1, 1), nil)), 0, 1, 9, api.OK}, {lookup(rule(nil, set(1, 1, 1, 1, 1), nil)), 0, 1, 9, api.ErrRule},
		{lookup(rule(set(1, 1, 1), set(1), set(1, 1, 1))), 0, 1, 9, api.OK}, {lookup(rule(set(1, 1, 1, 1), set(1), nil)), 0, 1, 9, api.ErrRule}, {lookup(rule(nil, set(1), set(1, 1, 1, 1))), 0, 1, 9, api.ErrRule},
		{lookup(rule(nil, [][]int{{}}, nil)), 0, 1, 9, api.ErrRule}, {lookup(rule(nil, [][]int{{2, 1}}, nil)), 0, 1, 9, api.ErrRule}, {lookup(rule([][]int{{1, 1}}, set(1), nil)), 0, 1, 9, api.ErrRule}, {lookup(rule(nil, set(1), [][]int{nil})), 0, 1, 9, api.ErrRule},
		{lookup(rule(nil, set(1), nil, 1, 1, 1, 1)), 0, 1, 9, api.OK}, {lookup(rule(nil, set(1), nil, 1, 1, 1, 1, 1)), 0, 1, 9, api.ErrRule},
		{lookup(call(nil, set(1), nil, slices.Repeat([]api.Call{{At: 0, Lookup: 1}}, 3)...)), 0, 2, 9, api.OK}, {lookup(call(nil, set(1), nil, slices.Repeat([]api.Call{{At: 0, Lookup: 1}}, 4)...)), 0, 2, 9, api.ErrRule},
		{lookup(api.Rule{In: set(1), Out: []int{1}, Calls: []api.Call{{At: 0, Lookup: 1}}}), 0, 2, 9, api.ErrRule},
		{lookup(rule(nil, set(9), nil)), 0, 1, 9, api.ErrGlyph}, {lookup(rule(nil, set(8), nil)), 0, 1, 9, api.OK}, {lookup(rule(set(-1), set(1), nil)), 0, 1, 9, api.ErrGlyph}, {lookup(rule(nil, set(1), set(9))), 0, 1, 9, api.ErrGlyph}, {lookup(rule(nil, set(1), nil, 9)), 0, 1, 9, api.ErrGlyph}, {lookup(rule(nil, set(1), nil, -1)), 0, 1, 9, api.ErrGlyph},
		{lookup(call(nil, set(1), nil, api.Call{At: 1, Lookup: 1})), 0, 2, 9, api.ErrCall}, {lookup(call(nil, set(1), nil, api.Call{At: -1, Lookup: 1})), 0, 2, 9, api.ErrCall}, {lookup(call(nil, set(1), nil, api.Call{At: 0, Lookup: 2})), 0, 2, 9, api.ErrCall}, {lookup(call(nil, set(1), nil, api.Call{At: 0, Lookup: 1})), 1, 3, 9, api.ErrCall},
		{lookup(call(nil, set(9), nil, api.Call{At: 5, Lookup: 1})), 0, 2, 9, api.ErrGlyph}, {lookup(right, rule(nil, set(9), nil), rule(nil, nil, nil)), 0, 2, 9, api.ErrGlyph}, {lookup(rule([][]int{{}}, set(9), nil)), 0, 2, 9, api.ErrRule},
		{example()[0], 0, 2, 10, api.OK}, {example()[0], 1, 2, 10, api.ErrCall},
	} {
		if got := Check(x.l, x.k, x.lookups, x.glyphs); got != x.want {
			t.Errorf("lookup %d: %v", k, got)
		}
	}
}

// P16.2
func TestFirst(t *testing.T) {
	if got := First(example()[0]); !slices.Equal(got, []int{1}) {
		t.Error(got)
	}
	if got := First(lookup(rule(nil, [][]int{{5, 3, 5}, {9}}, nil), rule(nil, nil, nil), rule(set(8), [][]int{{4, 3}}, nil))); !slices.Equal(got, []int{3, 4, 5}) {
		t.Error(got)
	}
	if First(lookup()) != nil {
		t.Error("no rules")
	}
}

// P16.3
func TestMatch(t *testing.T) {
	l := []api.Item{{Glyph: 1, Cluster: 0}, {Glyph: 2, Cluster: 0}, {Glyph: 3, Cluster: 1}, {Glyph: 4, Cluster: 1}, {Glyph: 5, Cluster: 2}}
	for k, x := range []struct {
		r    api.Rule
		at   int
		want bool
	}{
		{rule(nil, set(1), nil), 0, true}, {rule(nil, set(1, 2), nil), 0, true}, {rule(nil, set(2, 3), nil), 1, false}, {rule(nil, set(1, 2, 3), nil), 0, false}, {rule(nil, set(3, 4), nil), 2, true}, {rule(nil, set(5, 5), nil), 4, false},
		{rule(set(2, 1), set(3), nil), 2, true}, {rule(set(1, 2), set(3), nil), 2, false}, {rule(set(1), set(1), nil), 0, false}, {rule(set(1, 1), set(2), nil), 1, false}, {rule(nil, set(3), set(4, 5)), 2, true}, {rule(nil, set(3), set(5)), 2, false}, {rule(nil, set(4), set(5, 5)), 3, false}, {rule(set(2), set(3, 4), set(5)), 2, true},
		{rule(nil, [][]int{{7, 3, 3, 1}}, nil), 2, true}, {rule(nil, nil, nil), 0, false}, {rule(nil, set(1), nil), -1, false}, {rule(nil, set(1), nil), 5, false}, {rule(nil, set(1), nil), math.MaxInt, false}, {rule(nil, set(1), nil), math.MinInt, false}, {rule(nil, [][]int{nil}, nil), 0, false},
	} {
		if Match(x.r, l, x.at) != x.want {
			t.Errorf("rule %d", k)
		}
	}
}

// P16.4
func TestApplyExamples(t *testing.T) {
	yes := []bool{true}
	clusters := items(2, 3, 2, 3)
	clusters[3].Cluster = 1
	for k, x := range []struct {
		all   []api.Lookup
		k     int
		items []api.Item
		may   []bool
		want  []int
		tries int
	}{
		{example(), 0, items(9, 1, 2, 3, 1), yes, []int{9, 1, 8, 7}, 6}, {example(), 0, items(1, 2, 3), yes, []int{7, 2, 3}, 6}, {example(), 0, items(9, 1, 2, 1), yes, []int{9, 1, 2, 7}, 6}, {example(), 1, items(2, 3, 2, 3), yes, []int{8, 8}, 2},
		{example(), 1, clusters, []bool{true, true}, []int{8, 2, 3}, 3}, {example(), 1, clusters, []bool{true, false}, []int{8, 2, 3}, 2}, {example(), 1, clusters, yes, []int{8, 2, 3}, 2}, {example(), 1, clusters, nil, []int{2, 3, 2, 3}, 0}, {example(), 1, nil, yes, nil, 0},
		// The call at 0 takes away what it matches; the end moves back, so that the call at 1 finds nothing before it.
		{[]api.Lookup{lookup(call(nil, set(1, 2), nil, api.Call{At: 0, Lookup: 1}, api.Call{At: 1, Lookup: 2})), lookup(rule(nil, set(1), nil)), lookup(rule(nil, set(3), nil, 9))}, 0, items(1, 2, 3), yes, []int{2, 3}, 3},
		// A call that is not before the end does nothing, and those behind it are done all the same; so is one that matches nothing.
		{[]api.Lookup{lookup(call(nil, set(1, 2), nil, api.Call{At: 0, Lookup: 1}, api.Call{At: 1, Lookup: 2}, api.Call{At: 0, Lookup: 3})), lookup(rule(nil, set(1), nil)), lookup(rule(nil, set(3), nil, 9)), lookup(rule(nil, set(2), nil, 8))}, 0, items(1, 2, 3), yes, []int{8, 3}, 4},
		{[]api.Lookup{lookup(call(nil, set(1, 2), nil, api.Call{At: 0, Lookup: 1}, api.Call{At: 1, Lookup: 2})), lookup(rule(nil, set(7), nil)), lookup(rule(nil, set(2), nil, 9))}, 0, items(1, 2, 3), yes, []int{1, 9, 3}, 4},
		// The first call makes more of it, so that the second one still finds its place.
		{[]api.Lookup{lookup(call(nil, set(1), nil, api.Call{At: 0, Lookup: 1}, api.Call{At: 0, Lookup: 2})), lookup(rule(nil, set(1), nil, 5, 6)), lookup(rule(nil, set(5), nil, 7, 7, 7))}, 0, items(1, 1), yes, []int{7, 7, 7, 6, 7, 7, 7, 6}, 6},
		// Beyond the end: what the call matched becomes the end, and the rule goes on behind it.
		{[]api.Lookup{lookup(call(nil, set(1), nil, api.Call{At: 0, Lookup: 1})), lookup(rule(nil, set(1, 1, 1), nil, 4, 1))}, 0, items(1, 1, 1, 2), yes, []int{4, 1, 2}, 3},
		{[]api.Lookup{lookup(rule(nil, set(1), nil))}, 0, items(1, 1, 2, 1), yes, []int{2}, 4},
	} {
		given := slices.Clone(x.items)
		got, tries, e := Apply(x.all, x.k, x.items, x.may)
		var glyphs []int
		for _, i := range got {
			glyphs = append(glyphs, i.Glyph)
		}
		if e != api.OK || tries != x.tries || !slices.Equal(glyphs, x.want) || !slices.Equal(x.items, given) {
			t.Errorf("call %d: %v, %d tries, %v", k, glyphs, tries, e)
		}
	}
}

// calling returns a lookup of one rule, which has these calls.
func calling(in [][]int, calls ...api.Call) api.Lookup { return lookup(call(nil, in, nil, calls...)) }

// P16.4: calls of calls that remove items beyond the end of a rule, so that it moves before the place of the rule.
func TestEndsThatMoveBack(t *testing.T) {
	to := func(k int) api.Call { return api.Call{At: 0, Lookup: k} }
	zero := set(0)
	three := set(1, 1, 1)
	for k, x := range []struct {
		all      []api.Lookup
		glyphs   []int
		clusters []int
		want     []api.Item
		tries    int
	}{
		// The end is -1: the first item is tried again, and then the other one that is left.
		{[]api.Lookup{lookup(call(zero, zero, zero, to(1))), lookup(call(zero, zero, zero, to(2))), lookup(rule(zero, set(0, 0, 0), zero))}, []int{0, 0, 0, 0, 0}, []int{0, 1, 1, 1, 2}, []api.Item{{Cluster: 0}, {Cluster: 2}}, 6},
		// The end is -3, and 0.
		{[]api.Lookup{calling(set(1), to(1)), calling(set(1), to(2)), lookup(rule(nil, set(1, 1, 1, 1), nil))}, []int{1, 1, 1, 1, 5}, make([]int, 5), items(5), 4},
		{[]api.Lookup{calling(set(1), to(1)), calling(set(1), to(2)), lookup(rule(nil, three, nil, 5, 5))}, []int{1, 1, 1, 9}, make([]int, 4), items(5, 5, 9), 6},
		// Before the place, behind the first item: what stands there is tried once more, and changes once more.
		{[]api.Lookup{lookup(rule(nil, set(6), nil, 7), rule(nil, set(7), nil, 8), call(nil, set(1), nil, to(1))), calling(set(1), to(2)), lookup(rule(nil, three, nil, 5))}, []int{9, 6, 1, 1, 1}, []int{0, 1, 2, 2, 2}, []api.Item{{Glyph: 9}, {Glyph: 8, Cluster: 1}, {Glyph: 5, Cluster: 2}}, 14},
		// The call behind such a one is not done: its place is not before the end.
		{[]api.Lookup{calling(set(1, 1), api.Call{At: 1, Lookup: 1}, to(3)), calling(set(1), to(2)), lookup(rule(nil, three, nil)), lookup(rule(nil, set(1), nil, 8))}, []int{1, 1, 1, 1, 9}, make([]int, 5), items(1, 9), 5},
		// The end of the rule that was called is before the first item, and becomes that of the one that calls it.
		{[]api.Lookup{calling(set(1), to(1), to(3)), calling(set(1, 1), to(2)), calling(set(1), to(3)), lookup(rule(nil, three, nil))}, []int{1, 1, 1, 9}, make([]int, 4), items(9), 5},
		// All items are gone.
		{[]api.Lookup{calling(set(1), to(1)), calling(set(1), to(2)), lookup(rule(nil, three, nil))}, []int{1, 1, 1}, make([]int, 3), nil, 3},
	} {
		l := items(x.glyphs...)
		for i, c := range x.clusters {
			l[i].Cluster = c
		}
		got, tries, e := Apply(x.all, 0, l, []bool{true, true, true})
		if e != api.OK || tries != x.tries || !slices.Equal(got, x.want) {
			t.Errorf("call %d: %v, %d tries, %v", k, got, tries, e)
		}
	}
}

// P16.4
func TestApplyErrors(t *testing.T) {
	yes := []bool{true}
	grow := lookup(rule(nil, set(1), nil, 1, 1))
	none := rule(nil, set(50), nil)
	slow := []api.Lookup{lookup(slices.Repeat([]api.Rule{none}, 8)...)}
	deep := []api.Lookup{}
	for k := range 4 {
		all := api.Lookup{}
		for range 8 {
			all.Rules = append(all.Rules, call(nil, set(1), nil, slices.Repeat([]api.Call{{At: 0, Lookup: k + 1}}, 3)...))
		}
		deep = append(deep, all)
	}
	deep = append(deep, slow[0])
	for k, x := range []struct {
		all  []api.Lookup
		k    int
		n    int
		want api.Errno
	}{
		{example(), -1, 1, api.ErrArg}, {example(), 2, 1, api.ErrArg}, {nil, 0, 1, api.ErrArg}, {make([]api.Lookup, 13), 0, 1, api.ErrArg}, {[]api.Lookup{grow, lookup(rule(nil, nil, nil))}, 0, 1, api.ErrRule}, {[]api.Lookup{lookup(rule(nil, set(100), nil)), lookup(rule(nil, nil, nil))}, 0, 1, api.ErrGlyph},
		{[]api.Lookup{lookup(rule(nil, set(1), nil, 99))}, 0, 200, api.OK}, {example(), 0, 201, api.ErrMany}, {[]api.Lookup{grow}, 0, 100, api.OK}, {[]api.Lookup{grow}, 0, 101, api.ErrMany}, {slow, 0, 200, api.OK}, {deep, 0, 90, api.ErrWork},
	} {
		l := items(slices.Repeat([]int{1}, x.n)...)
		got, tries, e := Apply(x.all, x.k, l, yes)
		if e != x.want || e != api.OK && (got != nil || tries != 0) {
			t.Errorf("call %d: %v", k, e)
		}
	}
	// Each item costs 1 + 3 * (1 + 3 * (1 + 3 * (1 + 3 * 8))) = 688 tries: 8 of them are 5504, 9 are 6192.
	for n, want := range map[int]api.Errno{8: api.OK, 9: api.ErrWork} {
		if _, tries, e := Apply(deep, 0, items(slices.Repeat([]int{1}, n)...), yes); e != want || e == api.OK && tries != 688*n {
			t.Errorf("%d items: %d tries, %v", n, tries, e)
		}
	}
	// 6000 tries are permitted: 496 more than 5504, each lookup 50 at one item 8 tries.
	tail := append(slices.Repeat([]int{1}, 8), slices.Repeat([]int{60}, 62)...)
	if _, tries, e := Apply(deep, 0, items(tail...), yes); e != api.OK || tries != 6000 {
		t.Error("6000 tries", tries, e)
	}
	if _, _, e := Apply(deep, 0, items(append(tail, 60)...), yes); e != api.ErrWork {
		t.Error("more than 6000 tries", e)
	}
}

func randomLookups(r *rand.Rand) []api.Lookup {
	some := func(n int) (l [][]int) {
		for range r.Intn(n) {
			a := r.Intn(4)
			l = append(l, []int{a, a + 1 + r.Intn(2)})
		}
		return l
	}
	var all []api.Lookup
	for k := range 3 {
		var l api.Lookup
		for range r.Intn(4) {
			x := api.Rule{Back: some(2), In: append(some(3), []int{r.Intn(5)}), Ahead: some(2)}
			if r.Intn(2) == 0 && k < 2 {
				x.Calls = []api.Call{{At: r.Intn(len(x.In)), Lookup: k + 1 + r.Intn(2-k)}}
			} else {
				for range r.Intn(3) {
					x.Out = append(x.Out, r.Intn(5))
				}
			}
			l.Rules = append(l.Rules, x)
		}
		all = append(all, l)
	}
	return all
}

// P16.4, P16.5: lookups that call one another, and remove items, but never make more of them, have no error.
func TestLookupsThatRemove(t *testing.T) {
	r := rand.New(rand.NewSource(44))
	some := func(n int) (l [][]int) {
		for range n {
			l = append(l, [][]int{{0}, {1}, {0, 1}, {0, 1}}[r.Intn(4)])
		}
		return l
	}
	for range 20000 {
		var all []api.Lookup
		for k := range 4 {
			x := rule(nil, some(1+r.Intn(4)), nil, slices.Repeat([]int{r.Intn(2)}, r.Intn(2))...)
			if k < 3 && r.Intn(4) > 0 {
				x = call(nil, some(1), nil, api.Call{Lookup: k + 1}, api.Call{Lookup: k + 1 + r.Intn(3-k)})
			}
			all = append(all, lookup(x))
		}
		var l []api.Item
		for c := range 3 {
			for range r.Intn(7) {
				l = append(l, api.Item{Glyph: r.Intn(2), Cluster: c})
			}
		}
		may := []bool{r.Intn(2) == 0, r.Intn(2) == 0, true}
		got, _, e := Apply(all, 0, l, may)
		if e != api.OK {
			t.Fatalf("%v over %v: %v", all, l, e)
		}
		changes := func(i api.Item) bool { return may[i.Cluster] }
		if !slices.Equal(slices.DeleteFunc(slices.Clone(got), changes), slices.DeleteFunc(slices.Clone(l), changes)) {
			t.Fatalf("%v over %v: %v, and only %v may", all, l, got, may)
		}
		if !slices.IsSortedFunc(got, func(a, b api.Item) int { return a.Cluster - b.Cluster }) {
			t.Fatalf("clusters of %v", got)
		}
	}
}

// P16.5, P16.6
func TestLaws(t *testing.T) {
	r := rand.New(rand.NewSource(16))
	for range 5000 {
		all := randomLookups(r)
		var l []api.Item
		cluster := 0
		for range r.Intn(10) {
			cluster += r.Intn(2)
			l = append(l, api.Item{Glyph: r.Intn(6), Cluster: cluster})
		}
		may := make([]bool, cluster+1)
		for k := range may {
			may[k] = r.Intn(2) == 0
		}
		got, tries, e := Apply(all, 0, l, may)
		if e != api.OK {
			t.Fatal(e)
		}
		of := func(l []api.Item, c int) (out []int) {
			for _, i := range l {
				if i.Cluster == c {
					out = append(out, i.Glyph)
				}
			}
			return out
		}
		first := First(all[0])
		touched := 0
		for _, i := range l {
			if may[i.Cluster] {
				touched++
			}
		}
		begins := slices.ContainsFunc(l, func(i api.Item) bool { return may[i.Cluster] && slices.Contains(first, i.Glyph) })
		if !begins && (!slices.Equal(got, l) || tries != touched*len(all[0].Rules)) {
			t.Fatalf("%v of %v: nothing can begin, %d tries", got, l, tries)
		}
		for k := range may {
			if !may[k] && !slices.Equal(of(got, k), of(l, k)) {
				t.Fatalf("the cluster %d has changed", k)
			}
		}
		if !slices.IsSortedFunc(got, func(a, b api.Item) int { return a.Cluster - b.Cluster }) {
			t.Fatalf("clusters of %v", got)
		}
		in := [][]int{{1, 2}, {2, 3}}
		direct := []api.Lookup{lookup(rule(nil, in, nil, 4, 5, 0))}
		by := []api.Lookup{lookup(call(nil, in, nil, api.Call{At: 0, Lookup: 1})), direct[0]}
		a, _, _ := Apply(direct, 0, l, may)
		b, _, _ := Apply(by, 0, l, may)
		if !slices.Equal(a, b) {
			t.Fatalf("%v: %v by a call, %v without", l, b, a)
		}
	}
}
