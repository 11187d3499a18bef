package panel

import (
	"math"
	"math/rand"
	"slices"
	"testing"

	"abugida/api"
)

func rect(x, y, w, h int) api.Rect { return api.Rect{X: x, Y: y, W: w, H: h} }

// rows returns rows with these pixels.
func rows(l ...[]int) (out []uint64) {
	for _, pixels := range l {
		row := uint64(0)
		for _, i := range pixels {
			row |= 1 << i
		}
		out = append(out, row)
	}
	return out
}

type pixels = []int

// P33.1
func TestNew(t *testing.T) {
	for _, x := range [][2]int{{0, 1}, {1, 0}, {65, 1}, {1, 65}, {-1, 1}, {math.MinInt, math.MaxInt}} {
		if New(x[0], x[1]) != nil {
			t.Errorf("%v", x)
		}
	}
	p := New(64, 3)
	if !slices.Equal(p.Pixels(), make([]uint64, 3)) || p.Updates() != 0 {
		t.Error("a new panel")
	}
	p.Pixels()[0] = 7
	if p.Pixels()[0] != 0 {
		t.Error("the pixels are shared")
	}
}

// P33.2, P33.3
func TestWrite(t *testing.T) {
	p := New(8, 4)
	if e := p.Write(rect(2, 1, 3, 2), rows(pixels{0, 2}, pixels{1})); e != api.OK || !slices.Equal(p.Pixels(), rows(nil, pixels{2, 4}, pixels{3}, nil)) || p.Updates() != 1 {
		t.Error(e, p.Pixels())
	}
	p.Fail(1)
	if e := p.Write(rect(0, 0, 1, 3), rows(pixels{0}, pixels{0}, pixels{0})); e != api.ErrPower || !slices.Equal(p.Pixels(), rows(pixels{0}, pixels{2, 4}, pixels{3}, nil)) || p.Updates() != 1 {
		t.Error(e, p.Pixels())
	}
	one := rows(pixels{0})
	for k, x := range []struct {
		c    api.Rect
		rows []uint64
	}{
		{rect(6, 0, 3, 1), one}, {rect(0, 0, 1, 1), rows(pixels{1})}, {rect(0, 0, 1, 1), append(one, one...)}, {rect(0, 0, 1, 1), nil}, {rect(-1, 0, 1, 1), one}, {rect(0, -1, 1, 1), one}, {rect(0, 0, 0, 1), rows(nil)}, {rect(0, 0, 1, 0), nil}, {rect(0, 4, 1, 1), one}, {rect(8, 0, 1, 1), one}, {rect(0, 3, 1, 2), append(one, one...)},
		{rect(math.MaxInt, 0, 1, 1), one}, {rect(1, 0, math.MaxInt, 1), one}, {rect(0, 1, 1, math.MaxInt), one}, {rect(0, math.MinInt, 1, 1), one},
	} {
		if e := p.Write(x.c, x.rows); e != api.ErrArg {
			t.Errorf("call %d without power: %v", k, e)
		}
	}
	if e := p.Write(rect(0, 0, 1, 1), one); e != api.ErrPower {
		t.Error("the power is off", e)
	}
	p.Fail(3)
	if p.Write(rect(0, 3, 8, 1), rows(pixels{0, 7})) != api.OK || p.Write(rect(7, 2, 1, 2), rows(pixels{0}, nil)) != api.OK || p.Write(rect(0, 0, 1, 1), rows(nil)) != api.ErrPower {
		t.Error("three rows")
	}
	if want := rows(pixels{0}, pixels{2, 4}, pixels{3, 7}, pixels{0}); !slices.Equal(p.Pixels(), want) || p.Updates() != 3 {
		t.Error(p.Pixels(), p.Updates())
	}
	p.Fail(0)
	p.Fail(-5)
	for range 10 {
		if e := p.Write(rect(0, 0, 1, 1), one); e != api.OK {
			t.Error("the power does not fail", e)
		}
	}
	p.Fail(0)
	if e := p.Write(rect(0, 0, 1, 1), one); e != api.ErrPower {
		t.Error("at once", e)
	}
	wide := New(64, 64)
	if e := wide.Write(rect(0, 63, 64, 1), []uint64{math.MaxUint64}); e != api.OK || wide.Pixels()[63] != math.MaxUint64 {
		t.Error("a whole row", e)
	}
	if e := wide.Write(rect(63, 63, 1, 1), []uint64{0}); e != api.OK || wide.Pixels()[63] != math.MaxUint64>>1 {
		t.Error("the last pixel", e)
	}
}

// P33.4
func TestNil(t *testing.T) {
	var none *Panel
	for _, p := range []*Panel{none, {}} {
		p.Fail(0)
		if p.Write(rect(0, 0, 1, 1), []uint64{0}) != api.ErrArg || p.Pixels() != nil || p.Updates() != 0 {
			t.Error("a zero Panel")
		}
	}
}

// P33.5
func TestCut(t *testing.T) {
	for k, x := range []struct {
		rows []uint64
		c    api.Rect
		want []uint64
	}{
		{rows(pixels{1}, pixels{3}), rect(1, 0, 3, 2), rows(pixels{0}, pixels{2})}, {rows(pixels{1}, pixels{3}), rect(1, 1, 2, 1), rows(nil)}, {rows(pixels{63}), rect(63, 0, 1, 1), rows(pixels{0})}, {rows(pixels{0, 63}), rect(0, 0, 64, 1), rows(pixels{0, 63})},
		{rows(pixels{1}), rect(0, 0, 65, 1), nil}, {rows(pixels{1}), rect(63, 0, 2, 1), nil}, {rows(pixels{1}), rect(0, 0, 1, 2), nil}, {rows(pixels{1}), rect(0, 0, 0, 1), nil}, {nil, rect(0, 0, 1, 1), nil}, {rows(pixels{1}), rect(-1, 0, 1, 1), nil}, {rows(pixels{1}), rect(0, 0, math.MaxInt, math.MaxInt), nil},
	} {
		if got := Cut(x.rows, x.c); !slices.Equal(got, x.want) {
			t.Errorf("cut %d: %v", k, got)
		}
	}
}

// P33.6
func TestPlan(t *testing.T) {
	next := rows(pixels{1}, pixels{3}, nil, pixels{2})
	old := make([]uint64, 4)
	for _, x := range []struct {
		w, most int
		want    []api.Rect
	}{{8, 3, []api.Rect{rect(1, 0, 3, 2), rect(2, 3, 1, 1)}}, {8, 2, []api.Rect{rect(1, 0, 3, 2), rect(2, 3, 1, 1)}}, {8, 1, []api.Rect{rect(1, 0, 3, 4)}}, {3, 5, []api.Rect{rect(1, 0, 1, 1), rect(2, 3, 1, 1)}}, {8, 0, nil}, {8, -1, nil}, {0, 1, nil}, {65, 1, nil}, {1, 1, nil}} {
		if got := Plan(old, next, x.w, x.most); !slices.Equal(got, x.want) {
			t.Errorf("width %d, most %d: %v", x.w, x.most, got)
		}
	}
	if Plan(old, next[:3], 8, 1) != nil || Plan(make([]uint64, 65), append(make([]uint64, 64), 1), 8, 1) != nil || Plan(next, next, 8, 1) != nil || Plan(nil, nil, 8, 1) != nil {
		t.Error("nothing")
	}
	if got := Plan(make([]uint64, 64), append(make([]uint64, 63), 1<<63), 64, 1); !slices.Equal(got, []api.Rect{rect(63, 63, 1, 1)}) {
		t.Error("64 rows", got)
	}
	// The loss of the first and of the last two is the same: the first two are joined.
	three := rows(pixels{0}, nil, pixels{0}, nil, pixels{0})
	if got := Plan(make([]uint64, 5), three, 64, 2); !slices.Equal(got, []api.Rect{rect(0, 0, 1, 3), rect(0, 4, 1, 1)}) {
		t.Error(got)
	}
	four := rows(pixels{0}, nil, pixels{9}, nil, pixels{8})
	if got := Plan(make([]uint64, 5), four, 64, 2); !slices.Equal(got, []api.Rect{rect(0, 0, 1, 1), rect(8, 2, 2, 3)}) {
		t.Error(got)
	}
}

func randomRows(r *rand.Rand, n int, base []uint64) []uint64 {
	l := slices.Clone(base)
	if l == nil {
		l = make([]uint64, n)
	}
	for k := range l {
		if r.Intn(2) == 0 {
			l[k] ^= r.Uint64() & r.Uint64() & r.Uint64() & r.Uint64()
		}
	}
	return l
}

// P33.6, P33.7, P33.8, P33.9
func TestPlans(t *testing.T) {
	r := rand.New(rand.NewSource(33))
	for range 2000 {
		w, h := 1+r.Intn(64), 1+r.Intn(20)
		old := randomRows(r, h, nil)
		next := randomRows(r, h, old)
		last := math.MaxInt
		for most := 1; most < 8; most++ {
			l := Plan(old, next, w, most)
			sum := 0
			for i, c := range l {
				sum += c.W * c.H
				differs := func(x, y int) bool { return (old[y]^next[y])>>x&1 == 1 }
				first, final, left, right := false, false, false, false
				for x := c.X; x < c.X+c.W; x++ {
					for y := c.Y; y < c.Y+c.H; y++ {
						d := differs(x, y)
						first, final = first || d && y == c.Y, final || d && y == c.Y+c.H-1
						left, right = left || d && x == c.X, right || d && x == c.X+c.W-1
					}
				}
				if !first || !final || !left || !right || i > 0 && c.Y < l[i-1].Y+l[i-1].H {
					t.Fatalf("the rectangle %v of %v", c, l)
				}
			}
			if len(l) > most || sum > last {
				t.Fatalf("%d rectangles of %d pixels for %d", len(l), sum, most)
			}
			last = sum
		}
		p := New(w, h)
		if e := p.Write(rect(0, 0, w, h), Cut(old, rect(0, 0, w, h))); e != api.OK {
			t.Fatal(e)
		}
		most := 1 + r.Intn(4)
		p.Fail(r.Intn(2*h) - h/2)
		for _, c := range Plan(p.Pixels(), next, w, most) {
			if p.Write(c, Cut(next, c)) != api.OK {
				break
			}
		}
		for k, row := range p.Pixels() {
			if (row^old[k])&(row^next[k])&mask(w) != 0 {
				t.Fatal("a pixel of neither page")
			}
		}
		p.Fail(-1)
		for _, c := range Plan(p.Pixels(), next, w, most) {
			if e := p.Write(c, Cut(next, c)); e != api.OK {
				t.Fatal(e)
			}
		}
		for k, row := range p.Pixels() {
			if row != next[k]&mask(w) {
				t.Fatal("the page has not come")
			}
		}
		if len(Plan(p.Pixels(), next, w, most)) > 0 {
			t.Fatal("nothing differs")
		}
	}
}
