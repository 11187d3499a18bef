package page

import (
	"math"
	"math/rand"
	"slices"
	"strings"
	"testing"

	"abugida/api"
	"abugida/cluster"
	"abugida/flow"
	"abugida/order"
)

func cores() []api.Core {
	return []api.Core{
		{Name: "c", Version: 1, Root: "12345678", Glyphs: 1, Chars: []api.Char{{Code: 32, Width: 16}, {Code: 64, Width: 32}, {Code: 65, Width: 40}}, Pairs: []api.Pair{{Left: 64, Right: 65, By: -8}}},
		{Name: "d", Version: 2, Root: "abcdefgh", Glyphs: 1, Chars: []api.Char{{Code: 65, Width: 64}, {Code: 104, Width: 64}}},
	}
}

func doc(width int, texts ...string) api.Doc {
	d := api.Doc{Width: width}
	for _, c := range cores() {
		d.Fonts = append(d.Fonts, api.Pin{Name: c.Name, Version: c.Version, Root: c.Root})
	}
	for _, s := range texts {
		d.Paras = append(d.Paras, api.Para{Text: s, Set: api.Setting{Size: 8}})
	}
	return d
}

// P30.1
func TestCheck(t *testing.T) {
	for k, x := range []struct {
		want   api.Errno
		change func(d *api.Doc, c *[]api.Core)
	}{
		{api.OK, func(d *api.Doc, c *[]api.Core) {}},
		{api.ErrRange, func(d *api.Doc, c *[]api.Core) { d.Width = 0; d.Fonts = nil }},
		{api.ErrRange, func(d *api.Doc, c *[]api.Core) { d.Width = 401 }},
		{api.OK, func(d *api.Doc, c *[]api.Core) { d.Width = 400 }},
		{api.OK, func(d *api.Doc, c *[]api.Core) { d.Width = 1 }},
		{api.ErrMany, func(d *api.Doc, c *[]api.Core) { d.Fonts = nil }},
		{api.OK, func(d *api.Doc, c *[]api.Core) { d.Fonts, *c = d.Fonts[:1], (*c)[:1] }},
		{api.OK, func(d *api.Doc, c *[]api.Core) {
			third := (*c)[0]
			third.Name = "e"
			d.Fonts, *c = append(d.Fonts, api.Pin{Name: "e", Version: 1, Root: third.Root}), append(*c, third)
		}},
		{api.ErrMany, func(d *api.Doc, c *[]api.Core) { d.Fonts = make([]api.Pin, 4) }},
		{api.ErrMany, func(d *api.Doc, c *[]api.Core) { d.Paras = make([]api.Para, 7); d.Fonts[0].Name = "" }},
		{api.OK, func(d *api.Doc, c *[]api.Core) { d.Paras = slices.Repeat(d.Paras[:1], 6) }},
		{api.OK, func(d *api.Doc, c *[]api.Core) { d.Paras = nil }},
		{api.ErrName, func(d *api.Doc, c *[]api.Core) { d.Fonts[1].Name = "D"; d.Fonts[1].Version = 0 }},
		{api.ErrTwice, func(d *api.Doc, c *[]api.Core) { d.Fonts[1].Name = "c"; d.Fonts[1].Version = 0 }},
		{api.ErrVersion, func(d *api.Doc, c *[]api.Core) { d.Fonts[0].Version = 0; d.Fonts[0].Root = "" }},
		{api.ErrVersion, func(d *api.Doc, c *[]api.Core) { d.Fonts[0].Version = 1000; d.Fonts[1].Name = "" }},
		{api.ErrRoot, func(d *api.Doc, c *[]api.Core) { d.Fonts[1].Root = "1234567"; d.Paras[0].Set.Size = 0 }},
		{api.ErrMany, func(d *api.Doc, c *[]api.Core) { d.Paras[0].Text = strings.Repeat("A", 121); d.Paras[0].Set.Size = 0 }},
		{api.OK, func(d *api.Doc, c *[]api.Core) { d.Paras[0].Text = strings.Repeat("A", 120) }},
		{api.ErrRange, func(d *api.Doc, c *[]api.Core) { d.Paras[0].Set = api.Setting{Size: 3, At: []int{65}} }},
		{api.ErrRange, func(d *api.Doc, c *[]api.Core) { d.Paras[0].Set.Size = 33; d.Paras[1].Text = strings.Repeat("A", 121) }},
		{api.ErrAxis, func(d *api.Doc, c *[]api.Core) { d.Paras[1].Set.At = []int{65}; *c = nil }},
		{api.ErrAxis, func(d *api.Doc, c *[]api.Core) { d.Paras[1].Set.At = make([]int, 4) }},
		{api.OK, func(d *api.Doc, c *[]api.Core) { d.Paras[1].Set.At = []int{-64, 64, 0} }},
		{api.ErrMissing, func(d *api.Doc, c *[]api.Core) { *c = nil }},
		{api.ErrMissing, func(d *api.Doc, c *[]api.Core) { *c = append(*c, api.Core{}) }},
		{api.ErrMany, func(d *api.Doc, c *[]api.Core) { (*c)[0].Glyphs = 0; (*c)[0].Version = 2 }},
		{api.ErrVersion, func(d *api.Doc, c *[]api.Core) { (*c)[0].Version = 2; (*c)[1].Glyphs = 0 }},
		{api.ErrVersion, func(d *api.Doc, c *[]api.Core) { (*c)[1].Root = "abcdefgi" }},
		{api.ErrVersion, func(d *api.Doc, c *[]api.Core) { (*c)[1].Name = "e" }},
		{api.ErrVersion, func(d *api.Doc, c *[]api.Core) { (*c)[0], (*c)[1] = (*c)[1], (*c)[0] }},
	} {
		d, c := doc(10, "@A hA", "A"), cores()
		x.change(&d, &c)
		if got := Check(d, c); got != x.want {
			t.Errorf("document %d: %v", k, got)
		}
	}
}

// P30.2, P30.3, P30.4, P30.5
func TestExamples(t *testing.T) {
	d := doc(10, "@A hA", "A")
	if got := Pieces(cores(), "@A hA"); !slices.Equal(got, []api.Run{{From: 0, To: 3, Level: 0}, {From: 3, To: 4, Level: 1}, {From: 4, To: 5, Level: 0}}) {
		t.Error(got)
	}
	var got [][3]int
	for _, p := range Places(d, cores()) {
		got = append(got, [3]int{p.Para, p.Cluster, p.Line})
	}
	if !slices.Equal(got, [][3]int{{0, 0, 0}, {0, 1, 0}, {0, 2, 0}, {0, 3, 1}, {0, 4, 2}, {1, 0, 3}}) {
		t.Error(got)
	}
	for _, x := range []struct {
		line, x, want int
		ok            bool
	}{{0, 4, 1, true}, {0, 8, 2, true}, {1, 7, 3, true}, {1, 8, 0, false}, {3, -1, 0, false}, {0, 10, 0, false}, {-1, 0, 0, false}, {9, 0, 0, false}, {3, 4, 5, true}, {0, math.MinInt, 0, false}, {0, math.MaxInt, 0, false}} {
		if got, ok := Pick(d, cores(), x.line, x.x); got != x.want || ok != x.ok {
			t.Errorf("Pick in line %d at %d: %d %v", x.line, x.x, got, ok)
		}
	}
	for _, x := range []struct {
		from, to int
		want     string
	}{{0, 6, "@A hA\nA"}, {3, 6, "hA\nA"}, {-5, 2, "@A"}, {2, 2, ""}, {5, 3, ""}, {math.MinInt, math.MaxInt, "@A hA\nA"}, {5, 9, "A"}, {6, 9, ""}} {
		if got := Copy(d, cores(), x.from, x.to); got != x.want {
			t.Errorf("Copy from %d to %d: %q", x.from, x.to, got)
		}
	}
	e := doc(10, "A", "", "", "A\n", "@")
	e.Paras[2] = api.Para{Text: "A", Set: api.Setting{Size: 3}}
	if got := Copy(e, cores(), 0, 9); got != "A\n\n\nA\n\n@" {
		t.Errorf("%q", got)
	}
	lines := []int{}
	for _, p := range Places(e, cores()) {
		lines = append(lines, p.Line)
	}
	if !slices.Equal(lines, []int{0, 3, 3, 4}) {
		t.Error(lines)
	}
	if got := Pieces(cores(), "@\nA\n\n!A"); !slices.Equal(got, []api.Run{{From: 0, To: 1}, {From: 2, To: 3}, {From: 5, To: 6, Level: -1}, {From: 6, To: 7}}) {
		t.Error(got)
	}
	if Pieces(cores(), "") != nil || Places(api.Doc{}, nil) != nil {
		t.Error("nothing")
	}
}

func randomText(r *rand.Rand) string {
	some := []byte{10, 32, 32, 45, 48, 64, 65, 97, 104, 104, 240, 33}
	s := make([]byte, r.Intn(12))
	for i := range s {
		s[i] = some[r.Intn(len(some))]
	}
	return string(s)
}

// P30.2, P30.7
func TestPieces(t *testing.T) {
	r := rand.New(rand.NewSource(30))
	for range 3000 {
		s := randomText(r)
		fonts, levels, clusters := flow.Fonts(cores(), s), order.Levels(s), cluster.Split(s)
		place := 0
		last := api.Run{}
		for _, p := range Pieces(cores(), s) {
			for ; place < p.From; place++ {
				if s[place] != 10 {
					t.Fatalf("%q: %d is in no piece", s, place)
				}
			}
			inner := cluster.Split(s[p.From:p.To])
			first := cluster.At(s, p.From)
			for k, c := range inner {
				if clusters[first+k] != (api.Span{From: c.From + p.From, To: c.To + p.From}) || fonts[first+k] != p.Level || levels[c.From+p.From] != levels[p.From] {
					t.Fatalf("%q: the piece %v", s, p)
				}
			}
			if p.To <= p.From || last.To == p.From && p.From > 0 && last.Level == p.Level && levels[last.From] == levels[p.From] {
				t.Fatalf("%q: the piece %v is not the longest one", s, p)
			}
			place, last = p.To, p
		}
		if strings.Trim(s[place:], "\n") != "" {
			t.Fatalf("%q: the end is in no piece", s)
		}
	}
}

// P30.3, P30.4, P30.5, P30.6, P30.8, P30.9
func TestDocuments(t *testing.T) {
	r := rand.New(rand.NewSource(31))
	for range 1500 {
		var texts []string
		for range r.Intn(5) {
			texts = append(texts, randomText(r))
		}
		d := doc(r.Intn(40), texts...)
		for k := range d.Paras {
			d.Paras[k].Set.Size = 3 + r.Intn(10)
		}
		var want []api.Place
		line := 0
		for k, p := range d.Paras {
			lines := 1
			for _, x := range flow.Places(cores(), p.Text, p.Set, d.Width) {
				lines = max(lines, x.Line+1)
				x.Para, x.Line = k, x.Line+line
				want = append(want, x)
			}
			line += lines
		}
		l := Places(d, cores())
		if !slices.Equal(l, want) {
			t.Fatalf("places %v, not %v", l, want)
		}
		for i, p := range l {
			if i > 0 && (p.Line < l[i-1].Line || p.Para > l[i-1].Para && p.Line == l[i-1].Line) {
				t.Fatalf("lines of %v", l)
			}
			if p.Width == 0 {
				continue
			}
			a, ok1 := Pick(d, cores(), p.Line, p.X)
			b, ok2 := Pick(d, cores(), p.Line, p.X+p.Width-1)
			if a != i || b != i || !ok1 || !ok2 {
				t.Fatalf("the cluster %d is found as %d and %d", i, a, b)
			}
		}
		changed := cores()
		changed[0].Glyphs, changed[1].Root, changed[0].Heads = 9, "", make([]api.Head, 2)
		if !slices.Equal(Places(d, changed), l) {
			t.Fatal("places depend on more")
		}
		all := Copy(d, cores(), 0, len(l))
		if len(l) > 0 && l[0].Para == 0 && l[len(l)-1].Para == len(texts)-1 {
			shown := slices.Clone(texts)
			for k, p := range d.Paras {
				if p.Set.Size < 4 {
					shown[k] = ""
				}
			}
			if all != strings.Join(shown, "\n") {
				t.Fatalf("%q, not %q", all, shown)
			}
		}
		cut := r.Intn(len(l) + 1)
		a, b := Copy(d, cores(), 0, cut), Copy(d, cores(), cut, len(l))
		if !strings.HasPrefix(all, a) || !strings.HasSuffix(all, b) || strings.Trim(all[len(a):len(all)-len(b)], "\n") != "" {
			t.Fatalf("%q, %q and %q", all, a, b)
		}
	}
}
