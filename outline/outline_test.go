package outline

import (
	"math"
	"math/rand"
	"reflect"
	"slices"
	"testing"

	"abugida/api"
	"abugida/axes"
	"abugida/fix"
)

func example() api.Glyph {
	return api.Glyph{
		Contours: [][]api.Point{{{X: 0, Y: 0, On: true}, {X: 10, Y: 0, On: true}, {X: 10, Y: 20, On: true}}},
		Anchors:  []api.Anchor{{Class: 1, X: 5, Y: 20}},
		Advance:  12,
		Deltas:   []api.Delta{{Region: 0, Advance: 4, Moves: [][2]int{{0, 0}, {8, 0}, {0, 0}, {2, 0}, {0, 0}}}},
	}
}

func region() api.Region { return api.Region{Tents: []api.Tent{{From: 0, Peak: 64, To: 64}}} }

func randomGlyph(r *rand.Rand, regions int) api.Glyph {
	var g api.Glyph
	coord := func() int { return r.Intn(257) - 128 }
	for range r.Intn(4) {
		c := make([]api.Point, 3+r.Intn(4))
		for i := range c {
			c[i] = api.Point{X: coord(), Y: coord(), On: r.Intn(2) == 0}
		}
		g.Contours = append(g.Contours, c)
	}
	for k := range r.Intn(4) {
		g.Anchors = append(g.Anchors, api.Anchor{Class: 2*k + 1, X: coord(), Y: coord()})
	}
	if r.Intn(2) == 0 {
		g.Hang = api.Anchor{Class: 1 + r.Intn(9), X: coord(), Y: coord()}
	}
	g.Advance = r.Intn(129)
	for k := range regions {
		if r.Intn(3) == 0 {
			continue
		}
		d := api.Delta{Region: k, Advance: r.Intn(129) - 64}
		for range Points(g) {
			d.Moves = append(d.Moves, [2]int{r.Intn(129) - 64, r.Intn(129) - 64})
		}
		if g.Hang.Class == 0 {
			d.Moves[len(d.Moves)-1] = [2]int{}
		}
		g.Deltas = append(g.Deltas, d)
	}
	return g
}

// flat returns all numbers of a drawn outline, with what is not a number in between.
func flat(d api.Drawn) (l []int) {
	for _, c := range d.Contours {
		for _, p := range c {
			l = append(l, p.X, p.Y)
		}
	}
	for _, a := range append(slices.Clone(d.Anchors), d.Hang) {
		l = append(l, a.X, a.Y)
	}
	return append(l, d.Advance)
}

// P10.1
func TestPoints(t *testing.T) {
	if Points(example()) != 5 || Points(api.Glyph{}) != 1 || Points(api.Glyph{Contours: make([][]api.Point, 9), Anchors: make([]api.Anchor, 50)}) != 51 {
		t.Error("Points")
	}
}

// P10.2
func TestCheck(t *testing.T) {
	big := func(n int) []api.Point { return make([]api.Point, n) }
	anchors := func(n int) (l []api.Anchor) {
		for k := range n {
			l = append(l, api.Anchor{Class: k + 1})
		}
		return l
	}
	for k, x := range []struct {
		regions int
		want    api.Errno
		change  func(g *api.Glyph)
	}{
		{1, api.OK, func(g *api.Glyph) {}},
		{0, api.ErrDelta, func(g *api.Glyph) {}},
		{-1, api.ErrArg, func(g *api.Glyph) { g.Advance = -1 }},
		{9, api.ErrArg, func(g *api.Glyph) {}},
		{8, api.OK, func(g *api.Glyph) {}},
		{1, api.ErrMany, func(g *api.Glyph) { g.Contours = make([][]api.Point, 7) }},
		{1, api.ErrMany, func(g *api.Glyph) { g.Anchors = anchors(7) }},
		{0, api.OK, func(g *api.Glyph) { *g = api.Glyph{Anchors: anchors(6)} }},
		{0, api.OK, func(g *api.Glyph) { *g = api.Glyph{Contours: [][]api.Point{big(39)}} }},
		{0, api.ErrMany, func(g *api.Glyph) { *g = api.Glyph{Contours: [][]api.Point{big(40)}} }},
		{0, api.ErrMany, func(g *api.Glyph) { *g = api.Glyph{Contours: [][]api.Point{big(30), big(2)}, Anchors: anchors(8)} }},
		{1, api.ErrPoint, func(g *api.Glyph) { g.Contours[0] = g.Contours[0][:2]; g.Advance = -1 }},
		{1, api.ErrPoint, func(g *api.Glyph) { g.Contours = append(g.Contours, nil) }},
		{1, api.ErrPoint, func(g *api.Glyph) { g.Contours[0][1].X = 129 }},
		{1, api.ErrPoint, func(g *api.Glyph) { g.Contours[0][1].Y = -129 }},
		{1, api.OK, func(g *api.Glyph) { g.Contours[0][1] = api.Point{X: 128, Y: -128} }},
		{1, api.ErrAnchor, func(g *api.Glyph) { g.Anchors[0].Class = 0; g.Advance = -1 }},
		{1, api.ErrAnchor, func(g *api.Glyph) { g.Anchors[0].Class = 10 }},
		{1, api.OK, func(g *api.Glyph) { g.Anchors[0].Class = 9 }},
		{1, api.ErrAnchor, func(g *api.Glyph) { g.Anchors[0].X = 129 }},
		{0, api.ErrAnchor, func(g *api.Glyph) { *g = api.Glyph{Anchors: []api.Anchor{{Class: 2}, {Class: 2}}} }},
		{1, api.ErrAnchor, func(g *api.Glyph) { g.Hang.X = 1 }},
		{1, api.ErrAnchor, func(g *api.Glyph) { g.Hang.Class = 10 }},
		{1, api.ErrAnchor, func(g *api.Glyph) { g.Hang.Class = -1 }},
		{1, api.ErrAnchor, func(g *api.Glyph) { g.Hang = api.Anchor{Class: 1, Y: 129} }},
		{1, api.OK, func(g *api.Glyph) { g.Hang = api.Anchor{Class: 9, Y: 128} }},
		{1, api.ErrRange, func(g *api.Glyph) { g.Advance = -1; g.Deltas[0].Region = 5 }},
		{1, api.ErrRange, func(g *api.Glyph) { g.Advance = 129 }},
		{1, api.ErrDelta, func(g *api.Glyph) { g.Deltas[0].Region = -1 }},
		{2, api.ErrDelta, func(g *api.Glyph) { g.Deltas = append(g.Deltas, g.Deltas[0]) }},
		{1, api.ErrDelta, func(g *api.Glyph) { g.Deltas[0].Advance = 65 }},
		{1, api.ErrDelta, func(g *api.Glyph) { g.Deltas[0].Moves = g.Deltas[0].Moves[:4] }},
		{1, api.ErrDelta, func(g *api.Glyph) { g.Deltas[0].Moves[0][1] = -65 }},
		{1, api.ErrDelta, func(g *api.Glyph) { g.Deltas[0].Moves[4][1] = 1 }},
		{1, api.OK, func(g *api.Glyph) { g.Deltas[0].Moves[4][1] = 1; g.Hang.Class = 1 }},
	} {
		g := example()
		x.change(&g)
		if got := Check(g, x.regions); got != x.want {
			t.Errorf("glyph %d: %v", k, got)
		}
	}
}

// P10.3
func TestAt(t *testing.T) {
	regions := []api.Region{region()}
	for _, x := range []struct {
		at, point, anchor, advance int
	}{{0, 640, 320, 768}, {64, 1152, 448, 1024}, {32, 896, 384, 896}} {
		d, e := At(example(), regions, []int{x.at})
		if e != api.OK || d.Contours[0][1] != (api.Point{X: x.point, On: true}) || d.Anchors[0] != (api.Anchor{Class: 1, X: x.anchor, Y: 1280}) || d.Advance != x.advance {
			t.Errorf("at %d: %v %v", x.at, d, e)
		}
	}
	for _, x := range []struct {
		regions []api.Region
		at      []int
		want    api.Errno
	}{{regions, nil, api.ErrRegion}, {regions, []int{65}, api.ErrAxis}, {regions, make([]int, 4), api.ErrAxis}, {nil, []int{65}, api.ErrDelta}, {make([]api.Region, 9), nil, api.ErrArg}, {[]api.Region{region(), {}}, []int{0}, api.ErrRegion}} {
		if d, e := At(example(), x.regions, x.at); e != x.want || !reflect.DeepEqual(d, api.Drawn{}) {
			t.Errorf("at %v: %v", x.at, e)
		}
	}
}

// P10.3, P10.6
func TestAtOfGlyphs(t *testing.T) {
	r := rand.New(rand.NewSource(10))
	for range 500 {
		regions := []api.Region{region(), {Tents: []api.Tent{{From: -64, Peak: -20, To: -3}}}, {Tents: []api.Tent{{From: -9, Peak: 0, To: 9}}}}
		g := randomGlyph(r, 3)
		given := g
		given.Contours = clone(g.Contours)
		at := []int{r.Intn(129) - 64}
		d, e := At(g, regions, at)
		if e != api.OK || !Same(g, given) {
			t.Fatal(e)
		}
		base := flat(api.Drawn{Contours: g.Contours, Anchors: g.Anchors, Hang: g.Hang, Advance: g.Advance})
		for k, n := range flat(d) {
			want := 64 * base[k]
			for _, delta := range g.Deltas {
				by := delta.Advance
				if k < 2*Points(g) {
					by = delta.Moves[k/2][k%2]
				}
				part, _ := fix.Part(by, axes.Scalar(regions[delta.Region], at))
				want += part
			}
			if n != want {
				t.Fatalf("number %d: %d, not %d", k, n, want)
			}
		}
		without := g
		without.Deltas = nil
		for _, delta := range g.Deltas {
			if axes.Scalar(regions[delta.Region], at).Num > 0 {
				without.Deltas = append(without.Deltas, delta)
			}
		}
		if other, _ := At(without, regions, at); !reflect.DeepEqual(other, d) {
			t.Fatal("a delta without a scalar plays a part")
		}
		for k, c := range d.Contours {
			for i, p := range c {
				if p.On != g.Contours[k][i].On {
					t.Fatal("On changes")
				}
			}
		}
	}
}

// P10.4, P10.7
func TestScale(t *testing.T) {
	d, _ := At(example(), []api.Region{region()}, []int{32})
	s := Scale(d, 8)
	if s.Contours[0][1] != (api.Point{X: 112, On: true}) || s.Anchors[0] != (api.Anchor{Class: 1, X: 48, Y: 160}) || s.Advance != 112 {
		t.Error("example", s)
	}
	for _, size := range []int{3, 33, -8, math.MaxInt} {
		if !reflect.DeepEqual(Scale(d, size), api.Drawn{}) {
			t.Errorf("size %d", size)
		}
	}
	great := api.MaxValue + 1
	for _, wrong := range []api.Drawn{{Advance: great}, {Hang: api.Anchor{X: -great}}, {Hang: api.Anchor{Y: great}}, {Contours: [][]api.Point{{{Y: great}}}}, {Anchors: []api.Anchor{{X: 3}, {X: great}}}} {
		if !reflect.DeepEqual(Scale(wrong, 8), api.Drawn{}) {
			t.Errorf("%v", wrong)
		}
	}
	r := rand.New(rand.NewSource(11))
	for range 300 {
		d, _ := At(randomGlyph(r, 0), nil, nil)
		size := 4 + r.Intn(29)
		s := Scale(d, size)
		a, b := flat(d), flat(s)
		for k := range a {
			if n, _ := fix.Mul(a[k], size); n != b[k] || 2*(64*b[k]-a[k]*size) > 64 || 2*(64*b[k]-a[k]*size) < -64 {
				t.Fatalf("%d at the size %d: %d", a[k], size, b[k])
			}
			for i := range a {
				if a[i] < a[k] && b[i] > b[k] {
					t.Fatalf("the order of %d and %d", a[i], a[k])
				}
			}
		}
		if s.Hang.Class != d.Hang.Class || len(d.Contours) > 0 && s.Contours[0][0].On != d.Contours[0][0].On {
			t.Fatal("Class or On changes")
		}
		if len(s.Contours) > 0 {
			s.Contours[0][0].X += 5
			if !slices.Equal(flat(d), a) {
				t.Fatal("the result shares memory")
			}
		}
	}
}

// P10.5
func TestSame(t *testing.T) {
	full := func() api.Glyph {
		g := example()
		g.Program = []api.Ins{{Op: 1, N: 2}}
		return g
	}
	empty := api.Glyph{Contours: [][]api.Point{}, Anchors: []api.Anchor{}, Deltas: []api.Delta{}, Program: []api.Ins{}}
	if !Same(full(), full()) || !Same(api.Glyph{}, empty) {
		t.Error("equal glyphs")
	}
	for k, change := range []func(g *api.Glyph){
		func(g *api.Glyph) { g.Contours[0][2].X++ }, func(g *api.Glyph) { g.Contours[0][2].Y++ }, func(g *api.Glyph) { g.Contours[0][0].On = false }, func(g *api.Glyph) { g.Contours[0] = g.Contours[0][:2] },
		func(g *api.Glyph) { g.Contours = append(g.Contours, nil) }, func(g *api.Glyph) { g.Anchors[0].Class++ }, func(g *api.Glyph) { g.Anchors = nil }, func(g *api.Glyph) { g.Hang.Class = 1 }, func(g *api.Glyph) { g.Hang.Y = 1 },
		func(g *api.Glyph) { g.Advance++ }, func(g *api.Glyph) { g.Deltas = nil }, func(g *api.Glyph) { g.Deltas[0].Region++ }, func(g *api.Glyph) { g.Deltas[0].Advance++ }, func(g *api.Glyph) { g.Deltas[0].Moves[3][1]++ },
		func(g *api.Glyph) { g.Deltas[0].Moves = g.Deltas[0].Moves[:4] }, func(g *api.Glyph) { g.Program[0].N++ }, func(g *api.Glyph) { g.Program[0].Op++ }, func(g *api.Glyph) { g.Program = nil },
	} {
		g := full()
		change(&g)
		if Same(g, full()) || Same(full(), g) {
			t.Errorf("change %d is not seen", k)
		}
	}
}
