package fit

import (
	"math"
	"reflect"
	"testing"

	"abugida/api"
	"abugida/outline"
	"abugida/scan"
)

func example() (api.Glyph, []api.Region) {
	return api.Glyph{
		Contours: [][]api.Point{{{X: 0, Y: 0, On: true}, {X: 10, Y: 0, On: true}, {X: 10, Y: 20, On: true}}},
		Anchors:  []api.Anchor{{Class: 1, X: 5, Y: 20}},
		Advance:  12,
		Deltas:   []api.Delta{{Region: 0, Advance: 4, Moves: [][2]int{{0, 0}, {8, 0}, {0, 0}, {2, 0}, {0, 0}}}},
	}, []api.Region{{Tents: []api.Tent{{From: 0, Peak: 64, To: 64}}}}
}

func push(n, op, k int) []api.Ins { return []api.Ins{{Op: api.OpPush, N: n}, {Op: op, N: k}} }

// P14.1
func TestAt(t *testing.T) {
	g, regions := example()
	set := api.Setting{Size: 8, At: []int{0}, Features: -1}
	d, e := At(g, regions, set)
	want := api.Drawn{Contours: [][]api.Point{{{On: true}, {X: 80, On: true}, {X: 80, Y: 160, On: true}}}, Anchors: []api.Anchor{{Class: 1, X: 40, Y: 160}}, Advance: 96}
	if e != api.OK || !reflect.DeepEqual(d, want) {
		t.Error(d, e)
	}
	g.Program = append(push(64, api.OpSetX, 1), push(24, api.OpSetY, 3)...)
	want.Contours[0][1].X, want.Anchors[0].Y = 64, 24
	if d, e = At(g, regions, set); e != api.OK || !reflect.DeepEqual(d, want) {
		t.Error("hinted", d, e)
	}
	g.Program = append(push(5, api.OpSetX, 4), push(6, api.OpSetY, 4)...)
	if d, e = At(g, regions, set); e != api.OK || d.Hang != (api.Anchor{}) {
		t.Error("the hang of no mark moves", d.Hang, e)
	}
	g.Hang = api.Anchor{Class: 2, X: 1, Y: 2}
	if d, e = At(g, regions, set); e != api.OK || d.Hang != (api.Anchor{Class: 2, X: 5, Y: 6}) {
		t.Error("the hang of a mark", d.Hang, e)
	}
	g, _ = example()
	for k, x := range []struct {
		size int
		at   []int
		ins  []api.Ins
		want api.Errno
	}{
		{3, nil, nil, api.ErrArg}, {33, []int{0}, nil, api.ErrArg}, {4, []int{0}, nil, api.OK}, {32, []int{0}, nil, api.OK}, {8, nil, nil, api.ErrRegion}, {8, []int{65}, nil, api.ErrAxis}, {8, []int{0}, []api.Ins{{Op: api.OpPop}}, api.ErrStack}, {8, []int{0}, []api.Ins{{Op: 99}}, api.ErrOp},
		{8, []int{0}, push(9, api.OpAt, 0), api.ErrIndex}, {8, []int{0}, push(0, api.OpSetX, 5), api.ErrIndex}, {8, []int{0}, push(0, api.OpSetX, 4), api.OK},
	} {
		g.Program = x.ins
		d, e := At(g, regions, api.Setting{Size: x.size, At: x.at})
		if e != x.want || e != api.OK && !reflect.DeepEqual(d, api.Drawn{}) {
			t.Errorf("setting %d: %v", k, e)
		}
	}
	if _, e := At(api.Glyph{Advance: -1}, nil, api.Setting{Size: 8}); e != api.ErrRange {
		t.Error("a wrong glyph", e)
	}
}

// P14.3
func TestProgramsMovePointsAlone(t *testing.T) {
	g, regions := example()
	g.Contours[0][1].On = false
	g.Contours = append(g.Contours, []api.Point{{X: 1}, {X: 2}, {X: 3, Y: 9, On: true}})
	g.Deltas = nil
	set := api.Setting{Size: 31, At: []int{-7}}
	plain, _ := At(g, regions, set)
	for k := range outline.Points(g) {
		g.Program = append(g.Program, push(100*k, api.OpSetX, k)...)
		g.Program = append(g.Program, push(7*k, api.OpSetY, k)...)
	}
	d, e := At(g, regions, set)
	if e != api.OK || d.Advance != plain.Advance || len(d.Contours) != 2 || len(d.Anchors) != 1 || d.Anchors[0].Class != 1 || d.Hang.Class != 0 {
		t.Fatal(d, e)
	}
	k := 0
	for i, c := range d.Contours {
		for n, p := range c {
			if p != (api.Point{X: 100 * k, Y: 7 * k, On: g.Contours[i][n].On}) {
				t.Errorf("point %d: %v", k, p)
			}
			k++
		}
	}
}

// P14.2, P14.4
func TestBits(t *testing.T) {
	g, regions := example()
	d, _ := At(g, regions, api.Setting{Size: 8, At: []int{0}})
	pixel := func(x, y int) api.Bitmap {
		return api.Bitmap{Left: x, Top: y, Width: 1, Height: 1, Rows: []uint64{1}}
	}
	plain, _ := scan.Fill(d.Contours)
	for _, x := range [][4]int{{0, 0, 0, 0}, {64, -31, 1, 0}, {31, 32, 0, 1}, {-32, -33, 0, -1}, {64 * 10000, 64 * -10000, 10000, -10000}} {
		b, e := Bits(d, x[0], x[1])
		if e != api.OK || !scan.Same(b, scan.Move(plain, x[2], x[3])) {
			t.Errorf("Bits at %d, %d: %v %v", x[0], x[1], b, e)
		}
	}
	if !scan.Same(plain, pixel(0, 0)) {
		t.Error(plain)
	}
	for _, x := range [][2]int{{64 * 20000, 0}, {0, math.MinInt}, {math.MaxInt, math.MaxInt}, {-64*10000 - 33, 0}} {
		if b, e := Bits(d, x[0], x[1]); e != api.ErrRange || !scan.Same(b, api.Bitmap{}) {
			t.Errorf("Bits at %v: %v", x, e)
		}
		if b, e := Bits(api.Drawn{}, x[0], x[1]); e != api.OK || !scan.Same(b, api.Bitmap{}) {
			t.Errorf("no contours at %v: %v", x, e)
		}
	}
	far := api.Drawn{Contours: [][]api.Point{{{X: 5000}}}}
	if _, e := Bits(far, 0, 0); e != api.ErrRange {
		t.Error("a point that is not near", e)
	}
	for x := -200; x < 200; x += 7 {
		one, _ := Bits(d, x, 9)
		other, _ := Bits(d, x+64*3, 9-64*5)
		if !scan.Same(scan.Move(one, 3, -5), other) {
			t.Errorf("moved from %d", x)
		}
	}
	for x := -32; x < 32; x++ {
		if b, _ := Bits(d, 64*7+x, x); !scan.Same(b, scan.Move(plain, 7, 0)) {
			t.Errorf("Bits at 7 pixels and %d", x)
		}
	}
}
