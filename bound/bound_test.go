package bound

import (
	"math"
	"math/rand"
	"slices"
	"strconv"
	"strings"
	"testing"

	"abugida/api"
	"abugida/outline"
	"abugida/stack"
)

func program(s string) []api.Ins {
	words := []string{"", "push", "pop", "dup", "swap", "add", "sub", "mul", "neg", "min", "max", "less", "round", "size", "axis", "getx", "gety", "setx", "sety", "at", "move", "load", "store", "if", "else", "end", "loop"}
	var p []api.Ins
	for _, line := range strings.Split(s, ",") {
		parts := strings.Fields(line)
		if len(parts) == 0 {
			continue
		}
		i := api.Ins{Op: slices.Index(words, parts[0])}
		if len(parts) > 1 {
			i.N, _ = strconv.Atoi(parts[1])
		}
		p = append(p, i)
	}
	return p
}

// P13.1
func TestProve(t *testing.T) {
	full := strings.Repeat("push 1,", 16)
	// 8 * (8 * 9 + 2) + 1 = 593 steps.
	long := "loop 8, loop 8, push 1, pop, push 1, pop, push 1, pop, push 1, pop, end, end,"
	one := [][4]int{{0, 0, 64, 128}}
	two := [][4]int{{0, 0, 64, 128}, {5, 1000, 5, 2000}}
	axis := [][2]int{{-64, 64}}
	for _, x := range []struct {
		program string
		points  [][4]int
		axes    [][2]int
		want    api.Bounds
		e       api.Errno
	}{
		{"gety 0, round, sety 0", one, nil, api.Bounds{Stack: 1, Steps: 3}, api.OK},
		{"size, push 12, less, if, push 5, setx 0, end", one, nil, api.Bounds{Stack: 2, Steps: 7}, api.OK},
		{"size, push 12, less, if, push 5, else, end", one, nil, api.Bounds{}, api.ErrStack},
		{"size, push 20, less, if, push 5, else, end", one, nil, api.Bounds{Stack: 2, Steps: 6}, api.OK},
		{"size, push 17, less, if, push 5, end", one, nil, api.Bounds{Stack: 2, Steps: 6}, api.OK},
		{"size, push 16, less, if, push 5, end", one, nil, api.Bounds{}, api.ErrStack},
		{"size, push 8, less, if, push 5, end", one, nil, api.Bounds{Stack: 2, Steps: 4}, api.OK},
		{"size, push 8, sub, at", one, nil, api.Bounds{}, api.ErrIndex},
		{"size, push 1048566, add", one, nil, api.Bounds{}, api.ErrValue},
		{"", nil, nil, api.Bounds{}, api.OK},
		{"pop", one, nil, api.Bounds{}, api.ErrStack},
		{full + "pop", one, nil, api.Bounds{Stack: 16, Steps: 17}, api.OK},
		{full + "dup", one, nil, api.Bounds{}, api.ErrStack},
		{"loop 8, loop 8, loop 8, push 1, pop, end, end, end", one, nil, api.Bounds{}, api.ErrSteps},
		{"axis 0, if, push 1, push 2, pop, pop, end", one, axis, api.Bounds{Stack: 2, Steps: 7}, api.OK},
		{"axis 0, if, push 1, push 2, push 3, pop, pop, pop, else, push 1, pop, end", one, axis, api.Bounds{Stack: 3, Steps: 9}, api.OK},
		{"axis 0, if, push 1, pop, else, push 1, push 1, push 1, push 1, pop, pop, pop, pop, end", one, axis, api.Bounds{Stack: 4, Steps: 11}, api.OK},
		{"axis 0, if, pop, else, push 2000000, end", one, axis, api.Bounds{}, api.ErrValue},
		{"axis 0, if, pop, else, push 2, at, end", one, axis, api.Bounds{}, api.ErrStack},
		{"axis 0, if, push 2, at, else, pop, end", one, axis, api.Bounds{}, api.ErrIndex},
		{"axis 0, push 64, add, if, else, end", one, axis, api.Bounds{Stack: 2, Steps: 5}, api.OK},
		{"axis 0, push 65, add, if, push 1, end", one, axis, api.Bounds{Stack: 2, Steps: 6}, api.OK},
		{"axis 0, push 0, less, at, setx 0", two, axis, api.Bounds{Stack: 2, Steps: 5}, api.OK},
		{"axis 0, push 0, less, push 1046576, move", two, axis, api.Bounds{Stack: 2, Steps: 5}, api.OK},
		{"axis 0, push 0, less, push 1046577, move", two, axis, api.Bounds{}, api.ErrValue},
		{"axis 0, push 1, less, push 1, sub, at", two, axis, api.Bounds{}, api.ErrIndex},
		// Of several points each may have moved or not: so 3000 - 500 + 1 is the first value that does not fit.
		{"axis 0, push 0, less, push -500, move, gety 1, push 1046576, add", two, axis, api.Bounds{Stack: 2, Steps: 8}, api.OK},
		{"axis 0, push 0, less, push -500, move, gety 1, push 1046577, add", two, axis, api.Bounds{}, api.ErrValue},
		{"axis 0, store 0, load 0, load 0, mul, push 1048512, add", one, axis, api.Bounds{Stack: 2, Steps: 7}, api.OK},
		{"axis 0, store 0, load 0, load 0, mul, push 1048513, add", one, axis, api.Bounds{}, api.ErrValue},
		{"axis 0, if, push 7, store 1, end, load 1, push 1048569, add", one, axis, api.Bounds{Stack: 2, Steps: 8}, api.OK},
		{"axis 0, if, push 7, store 1, end, load 1, push 1048570, add", one, axis, api.Bounds{}, api.ErrValue},
		{"axis 0, if, push 7, setx 0, end, getx 0, push 1048512, add", one, axis, api.Bounds{Stack: 2, Steps: 8}, api.OK},
		{"axis 0, if, push 0, store 1, else, axis 0, store 1, end, load 1, push -1048512, add", one, axis, api.Bounds{Stack: 2, Steps: 8}, api.OK},
		{"axis 0, if, push 0, store 1, else, axis 0, store 1, end, load 1, push -1048513, add", one, axis, api.Bounds{}, api.ErrValue},
		{"push 0, push -1048512, move", [][4]int{{0, -64, 64, 128}}, nil, api.Bounds{Stack: 2, Steps: 3}, api.OK},
		{"push 0, push -1048513, move", [][4]int{{0, -64, 64, 128}}, nil, api.Bounds{}, api.ErrValue},
		{"push 0, push 1048448, move", one, nil, api.Bounds{Stack: 2, Steps: 3}, api.OK},
		{"push 0, push 1048449, move", one, nil, api.Bounds{}, api.ErrValue},
		{"axis 0, neg, push -1048556, add", one, [][2]int{{-10, 20}}, api.Bounds{Stack: 2, Steps: 4}, api.OK},
		{"axis 0, neg, push -1048557, add", one, [][2]int{{-10, 20}}, api.Bounds{}, api.ErrValue},
		{"axis 0, neg, push 1048566, add", one, [][2]int{{-10, 20}}, api.Bounds{Stack: 2, Steps: 4}, api.OK},
		{"axis 0, neg, push 1048567, add", one, [][2]int{{-10, 20}}, api.Bounds{}, api.ErrValue},
		{long + strings.Repeat("push 1,", 7), one, nil, api.Bounds{Stack: 7, Steps: 600}, api.OK},
		{long + strings.Repeat("push 1,", 7) + "pop", one, nil, api.Bounds{}, api.ErrSteps},
		{"axis 0, push 0, less, at, push 1046576, add", two, axis, api.Bounds{Stack: 2, Steps: 6}, api.OK},
		{"axis 0, push 0, less, at, push 1046577, add", two, axis, api.Bounds{}, api.ErrValue},
		{"push 1, push 2, less, at", two, nil, api.Bounds{Stack: 2, Steps: 4}, api.OK},
		{"push 1, push 2, less, at", one, nil, api.Bounds{}, api.ErrIndex},
		{"push 2, push 2, less, at", one, nil, api.Bounds{Stack: 2, Steps: 4}, api.OK},
		{"axis 0, push 3, max, push 9, min, push 3, sub, at", make([][4]int, 7), axis, api.Bounds{Stack: 2, Steps: 8}, api.OK},
		{"axis 0, push 3, max, push 9, min, push 3, sub, at", make([][4]int, 6), axis, api.Bounds{}, api.ErrIndex},
		{"if", one, nil, api.Bounds{}, api.ErrLoop}, {"axis 0", one, nil, api.Bounds{}, api.ErrIndex}, {"getx 1", one, nil, api.Bounds{}, api.ErrIndex},
	} {
		if got, e := Prove(program(x.program), x.points, [2]int{8, 16}, x.axes); got != x.want || e != x.e {
			t.Errorf("%q: %v %v", x.program, got, e)
		}
	}
	great := api.MaxValue + 1
	for k, x := range []struct {
		points [][4]int
		sizes  [2]int
		axes   [][2]int
	}{
		{one, [2]int{3, 8}, nil}, {one, [2]int{8, 33}, nil}, {one, [2]int{9, 8}, nil}, {one, [2]int{8, 9}, [][2]int{{1, 0}}}, {one, [2]int{8, 9}, make([][2]int, 4)}, {make([][4]int, 41), [2]int{8, 9}, nil},
		{[][4]int{{1, 0, 0, 0}}, [2]int{8, 9}, nil}, {[][4]int{{0, 1, 0, 0}}, [2]int{8, 9}, nil}, {[][4]int{{0, 0, great, 0}}, [2]int{8, 9}, nil}, {[][4]int{{0, -great, 0, 0}}, [2]int{8, 9}, nil}, {[][4]int{{math.MinInt, 0, 0, 0}}, [2]int{8, 9}, nil},
	} {
		if got, e := Prove(program("if"), x.points, x.sizes, x.axes); e != api.ErrArg || got != (api.Bounds{}) {
			t.Errorf("argument %d: %v", k, e)
		}
	}
}

func example() (api.Glyph, []api.Region) {
	return api.Glyph{
		Contours: [][]api.Point{{{X: 0, Y: 0, On: true}, {X: 10, Y: 0, On: true}, {X: 10, Y: 20, On: true}}},
		Anchors:  []api.Anchor{{Class: 1, X: 5, Y: 20}},
		Advance:  12,
		Deltas:   []api.Delta{{Region: 0, Advance: 4, Moves: [][2]int{{0, 0}, {8, 0}, {0, 0}, {2, 0}, {0, 0}}}},
	}, []api.Region{{Tents: []api.Tent{{From: 0, Peak: 64, To: 64}}}}
}

// P13.2, P13.3
func TestBoxAndGlyph(t *testing.T) {
	g, regions := example()
	got := Box(g, regions, [2]int{8, 16}, [][2]int{{0, 64}})
	if want := [][4]int{{0, 0, 0, 0}, {80, 0, 288, 0}, {80, 160, 160, 320}, {40, 160, 112, 320}, {0, 0, 0, 0}}; !slices.Equal(got, want) {
		t.Error(got)
	}
	if got := Box(g, regions, [2]int{8, 16}, [][2]int{{-64, 0}}); got[1] != [4]int{80, 0, 160, 0} {
		t.Error(got)
	}
	if got := Box(g, regions, [2]int{8, 8}, [][2]int{{16, 32}}); got[1] != [4]int{96, 0, 112, 0} {
		t.Error(got)
	}
	g.Deltas[0].Moves[1][0] = -8
	if got := Box(g, regions, [2]int{8, 16}, [][2]int{{0, 64}}); got[1] != [4]int{16, 0, 160, 0} {
		t.Error("a negative move", got)
	}
	g.Contours[0][1].X = -10
	if got := Box(g, regions, [2]int{8, 16}, [][2]int{{0, 64}}); got[1] != [4]int{-288, 0, -80, 0} {
		t.Error("negative values", got)
	}
	g, regions = example()
	for k, x := range []struct {
		sizes   [2]int
		axes    [][2]int
		regions []api.Region
		want    api.Errno
	}{
		{[2]int{3, 8}, [][2]int{{0, 0}}, nil, api.ErrArg}, {[2]int{8, 9}, [][2]int{{1, 0}}, nil, api.ErrArg}, {[2]int{8, 9}, [][2]int{{0, 0}}, nil, api.ErrDelta}, {[2]int{8, 9}, nil, regions, api.ErrRegion}, {[2]int{8, 9}, [][2]int{{0, 0}}, []api.Region{regions[0], {}}, api.ErrRegion}, {[2]int{8, 9}, [][2]int{{0, 0}}, make([]api.Region, 9), api.ErrArg},
	} {
		b, e := Glyph(g, x.regions, x.sizes, x.axes)
		if e != x.want || b != (api.Bounds{}) || Box(g, x.regions, x.sizes, x.axes) != nil {
			t.Errorf("argument %d: %v", k, e)
		}
	}
	g.Program = program("push 64, setx 1, push 24, sety 3")
	if b, e := Glyph(g, regions, [2]int{4, 32}, [][2]int{{-64, 64}}); e != api.OK || b != (api.Bounds{Stack: 1, Steps: 4}) {
		t.Error(b, e)
	}
	g.Program = program("getx 1, push 80, sub, push 1, less, push 0, at, pop, pop, getx 1, push 80, sub, at")
	if _, e := Glyph(g, regions, [2]int{8, 8}, [][2]int{{-64, 0}}); e != api.OK {
		t.Error("the point stands at 80 alone", e)
	}
	if _, e := Glyph(g, regions, [2]int{8, 8}, [][2]int{{-64, 64}}); e != api.ErrIndex {
		t.Error("the point moves", e)
	}
}

// randomBlock returns a random closed program of about n instructions for 3 points and 1 axis.
func randomBlock(r *rand.Rand, n int) []api.Ins {
	var p []api.Ins
	for len(p) < n {
		op := 1 + r.Intn(26)
		i := api.Ins{Op: op}
		switch op {
		case api.OpPush:
			i.N = r.Intn(4)
		case api.OpGetX, api.OpGetY, api.OpSetX, api.OpSetY:
			i.N = r.Intn(3)
		case api.OpLoad, api.OpStore:
			i.N = r.Intn(2)
		case api.OpIf:
			in := append([]api.Ins{{Op: api.OpAxis}, {Op: api.OpPush, N: r.Intn(40) - 20}, {Op: api.OpLess}, i}, randomBlock(r, r.Intn(4))...)
			if r.Intn(2) == 0 {
				in = append(append(in, api.Ins{Op: api.OpElse}), randomBlock(r, r.Intn(4))...)
			}
			p = append(append(p, in...), api.Ins{Op: api.OpEnd})
			continue
		case api.OpLoop:
			i.N = 1 + r.Intn(3)
			p = append(append(append(p, i), randomBlock(r, r.Intn(3))...), api.Ins{Op: api.OpEnd})
			continue
		case api.OpElse, api.OpEnd:
			continue
		case api.OpAdd, api.OpSub, api.OpMul, api.OpMin, api.OpMax, api.OpLess, api.OpMove:
			p = append(p, api.Ins{Op: api.OpPush, N: r.Intn(3)}, api.Ins{Op: api.OpGetY, N: r.Intn(3)})
		}
		if r.Intn(2) == 0 {
			p = append(p, api.Ins{Op: api.OpPush, N: r.Intn(70) - 10})
		}
		p = append(p, i)
	}
	return p
}

func between(r *rand.Rand, low, high int) int { return low + r.Intn(high-low+1) }

// P13.4, P13.5
func TestProvedProgramsNeverFail(t *testing.T) {
	r := rand.New(rand.NewSource(13))
	proved := 0
	for range 12000 {
		p := randomBlock(r, 1+r.Intn(9))
		boxes := make([][4]int, 3)
		for k := range boxes {
			x, y := r.Intn(300)-100, r.Intn(300)-100
			boxes[k] = [4]int{x, y, x + r.Intn(50), y + r.Intn(50)}
		}
		sizes := [2]int{8, 8 + r.Intn(10)}
		axes := [][2]int{{-r.Intn(30), r.Intn(30)}}
		b, e := Prove(p, boxes, sizes, axes)
		if e == api.OK {
			proved++
		}
		for range 6 {
			size, at := between(r, sizes[0], sizes[1]), []int{between(r, axes[0][0], axes[0][1])}
			points := make([][2]int, 3)
			alone := make([][4]int, 3)
			for k, x := range boxes {
				points[k] = [2]int{between(r, x[0], x[2]), between(r, x[1], x[3])}
				alone[k] = [4]int{points[k][0], points[k][1], points[k][0], points[k][1]}
			}
			_, steps, f := stack.Run(p, size, at, points)
			if e == api.OK && (f != api.OK || steps > b.Steps) {
				t.Fatalf("%v at %d, %v, %v: %v", p, size, at, points, f)
			}
			c, g := Prove(p, alone, [2]int{size, size}, [][2]int{{at[0], at[0]}})
			if g != f || g == api.OK && c.Steps != steps {
				t.Fatalf("%v for one possibility: %v %d, not %v %d", p, g, c.Steps, f, steps)
			}
			if e == api.OK && (g != api.OK || c.Steps > b.Steps || c.Stack > b.Stack) {
				t.Fatalf("%v: %v within %v", p, c, b)
			}
		}
	}
	if proved < 2000 {
		t.Error("too few programs are proved", proved)
	}
}

// P13.4
func TestGlyphsStayInTheirBoxes(t *testing.T) {
	r := rand.New(rand.NewSource(14))
	for range 300 {
		g, _ := example()
		regions := []api.Region{{Tents: []api.Tent{{From: 0, Peak: 20, To: 50}}}, {Tents: []api.Tent{{From: -40, Peak: -13, To: 0}}}, {Tents: []api.Tent{{From: -1, Peak: 0, To: 1}}}}
		g.Deltas = nil
		for k := range regions {
			d := api.Delta{Region: k}
			for range 5 {
				d.Moves = append(d.Moves, [2]int{r.Intn(129) - 64, r.Intn(129) - 64})
			}
			d.Moves[4] = [2]int{}
			g.Deltas = append(g.Deltas, d)
		}
		axes := [][2]int{{-r.Intn(65), r.Intn(65)}}
		sizes := [2]int{4 + r.Intn(8), 12 + r.Intn(20)}
		boxes := Box(g, regions, sizes, axes)
		for range 20 {
			d, _ := outline.At(g, regions, []int{between(r, axes[0][0], axes[0][1])})
			s := outline.Scale(d, between(r, sizes[0], sizes[1]))
			for k, p := range s.Contours[0] {
				if b := boxes[k]; p.X < b[0] || p.X > b[2] || p.Y < b[1] || p.Y > b[3] {
					t.Fatalf("%v leaves %v", p, b)
				}
			}
		}
	}
}
