package shape

import (
	"math/rand"
	"slices"
	"strings"
	"testing"

	"abugida/api"
	"abugida/cluster"
)

func example() api.Font {
	return api.Font{
		Core: api.Core{Glyphs: 4, Chars: []api.Char{{Code: 65, Glyph: 1}, {Code: 97, Glyph: 2}, {Code: 104, Glyph: 3}}, Heads: []api.Head{{Feature: 0, First: []int{1}}, {Feature: 2, First: []int{3}}}},
		Lookups: []api.Lookup{
			{Rules: []api.Rule{{In: [][]int{{1}, {2}}, Out: []int{3}}}},
			{Rules: []api.Rule{{In: [][]int{{3}}, Out: []int{1, 1}}}},
		},
	}
}

func items(l ...[2]int) (out []api.Item) {
	for _, x := range l {
		out = append(out, api.Item{Glyph: x[0], Cluster: x[1]})
	}
	return out
}

// P18.1, P18.2
func TestExamples(t *testing.T) {
	for _, x := range []struct {
		text         string
		nominal, run []api.Item
	}{
		{string([]byte{65, 97, 66}), items([2]int{1, 0}, [2]int{2, 0}, [2]int{0, 1}), items([2]int{3, 0}, [2]int{0, 1})},
		{string([]byte{104, 104}), items([2]int{3, 0}, [2]int{3, 1}), items([2]int{1, 0}, [2]int{1, 0}, [2]int{3, 1})},
		{string([]byte{65, 240}), items([2]int{1, 0}), items([2]int{1, 0})},
		{string([]byte{152, 192, 65, 241}), items([2]int{0, 0}, [2]int{0, 0}, [2]int{1, 1}), items([2]int{0, 0}, [2]int{0, 0}, [2]int{1, 1})},
		{"", nil, nil},
	} {
		nominal, e1 := Nominal(example().Core, x.text)
		run, e2 := Run(example(), x.text, 0)
		if e1 != api.OK || e2 != api.OK || !slices.Equal(nominal, x.nominal) || !slices.Equal(run, x.run) {
			t.Errorf("%v: %v %v, %v %v", []byte(x.text), nominal, e1, run, e2)
		}
	}
	core := api.Core{Chars: []api.Char{{Code: 192, Glyph: 5}, {Code: 152, Glyph: 6}, {Code: 152, Glyph: 7}}}
	if got, _ := Nominal(core, string([]byte{152, 192})); !slices.Equal(got, items([2]int{5, 0}, [2]int{6, 0})) {
		t.Error("the order, or the first of two characters", got)
	}
}

// P18.1, P18.2
func TestErrors(t *testing.T) {
	f := example()
	long := strings.Repeat("A", 121)
	if got, e := Nominal(f.Core, long); e != api.ErrMany || got != nil {
		t.Error("a long text", e)
	}
	if got, e := Nominal(f.Core, long[1:]); e != api.OK || len(got) != 120 {
		t.Error("a text of 120 bytes", e)
	}
	less := example()
	less.Core.Heads = less.Core.Heads[:1]
	slow := example()
	none := api.Rule{In: [][]int{{50}}}
	slow.Lookups[0].Rules = slices.Repeat([]api.Rule{none}, 8)
	slow.Lookups, slow.Core.Heads = slices.Repeat(slow.Lookups[:1], 7), slices.Repeat(slow.Core.Heads[:1], 7)
	ten := example()
	ten.Lookups, ten.Core.Heads = slices.Repeat(slow.Lookups[:1], 10), slices.Repeat(slow.Core.Heads[:1], 10)
	wrong := example()
	wrong.Lookups[1].Rules[0].In = nil
	grow := example()
	grow.Lookups[0] = api.Lookup{Rules: []api.Rule{{In: [][]int{{1}}, Out: []int{1, 1}}}}
	for k, x := range []struct {
		f    api.Font
		text string
		want api.Errno
	}{
		{less, long, api.ErrMany}, {less, "A", api.ErrRule}, {wrong, "A", api.ErrRule}, {grow, long[21:], api.OK}, {grow, long[20:], api.ErrMany}, {api.Font{}, "A", api.OK},
		// 7 lookups of 8 rules: 56 tries for each item, 5992 for 107.
		{ten, long[:75], api.OK}, {ten, long[:76], api.ErrWork}, {slow, long[:107], api.OK}, {slow, long[:108], api.ErrWork}, {slow, long[:120], api.ErrWork},
	} {
		if got, e := Run(x.f, x.text, 0); e != x.want || e != api.OK && got != nil {
			t.Errorf("call %d: %v", k, e)
		}
	}
}

// P18.3
func TestCluster(t *testing.T) {
	l := items([2]int{5, 0}, [2]int{7, 2}, [2]int{6, 2}, [2]int{4, 0})
	if !slices.Equal(Cluster(l, 2), []int{7, 6}) || !slices.Equal(Cluster(l, 0), []int{5, 4}) || Cluster(l, 1) != nil || Cluster(nil, 0) != nil || Cluster(l, -1) != nil {
		t.Error("Cluster")
	}
}

func randomFont(r *rand.Rand) api.Font {
	f := api.Font{Core: api.Core{Glyphs: 9}}
	for k, code := range []int{65, 66, 97, 104, 105, 128} {
		f.Core.Chars = append(f.Core.Chars, api.Char{Code: code, Glyph: k + 1})
	}
	some := func(n int) (l [][]int) {
		for range r.Intn(n) {
			a := r.Intn(7)
			l = append(l, []int{a, a + 1 + r.Intn(2)})
		}
		return l
	}
	for k := range 4 {
		var l api.Lookup
		for range 1 + r.Intn(3) {
			x := api.Rule{Back: some(2), In: append(some(2), []int{r.Intn(9)}), Ahead: some(2)}
			if r.Intn(3) == 0 && k < 3 {
				x.Calls = []api.Call{{At: 0, Lookup: k + 1}}
			} else {
				for range r.Intn(3) {
					x.Out = append(x.Out, r.Intn(9))
				}
			}
			l.Rules = append(l.Rules, x)
		}
		f.Lookups = append(f.Lookups, l)
		f.Core.Heads = append(f.Core.Heads, api.Head{Feature: r.Intn(10)})
	}
	return f
}

// P18.4, P18.5, P18.6
func TestLaws(t *testing.T) {
	r := rand.New(rand.NewSource(18))
	some := []byte{65, 66, 97, 104, 105, 128, 240, 48, 10}
	for range 3000 {
		f := randomFont(r)
		s := make([]byte, r.Intn(9))
		for i := range s {
			s[i] = some[r.Intn(len(some))]
		}
		text, features := string(s), r.Intn(1024)
		got, e := Run(f, text, features)
		if e != api.OK {
			t.Fatal(e)
		}
		glyphs := []int{0}
		for _, c := range f.Core.Chars {
			glyphs = append(glyphs, c.Glyph)
		}
		heads := 0
		for k, l := range f.Lookups {
			for _, x := range l.Rules {
				glyphs = append(glyphs, x.Out...)
			}
			heads |= 1 << f.Core.Heads[k].Feature
		}
		for k, i := range got {
			if i.Cluster < 0 || i.Cluster >= len(cluster.Split(text)) || k > 0 && i.Cluster < got[k-1].Cluster || !slices.Contains(glyphs, i.Glyph) {
				t.Fatalf("%v: %v", s, got)
			}
		}
		for _, other := range []int{features | 31, features | 1<<10 | 1<<40, features | ^heads, features &^ 31} {
			if again, _ := Run(f, text, other); !slices.Equal(again, got) {
				t.Fatalf("%v with the features %b: %v, not %v", s, other, again, got)
			}
		}
		f.Lookups = append(f.Lookups, api.Lookup{Rules: []api.Rule{{In: [][]int{{0, 1, 2, 3, 4, 5, 6, 7, 8}}}}})
		f.Core.Heads = append(f.Core.Heads, api.Head{Feature: 9})
		if again, _ := Run(f, text, features&511); features < 512 && !slices.Equal(again, got) {
			t.Fatalf("%v: a lookup that may nowhere act changes %v into %v", s, got, again)
		}
	}
}
