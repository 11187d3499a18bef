package scan

import (
	"math"
	"math/big"
	"math/rand"
	"slices"
	"testing"

	"abugida/api"
)

func on(l ...int) (c []api.Point) {
	for i := 0; i < len(l); i += 2 {
		c = append(c, api.Point{X: l[i], Y: l[i+1], On: true})
	}
	return c
}

func off(l ...int) []api.Point {
	c := on(l...)
	for i := range c {
		c[i].On = false
	}
	return c
}

func square(a, b int) []api.Point { return on(a, a, b, a, b, b, a, b) }

func turned(c []api.Point) []api.Point {
	c = slices.Clone(c)
	slices.Reverse(c)
	return c
}

// slowPieces returns the pieces of a contour as triples in 1/128 pixels; a line has its middle as control point twice as exact.
func slowPieces(c []api.Point) (l [][3][2]*big.Rat) {
	type spot struct {
		x, y *big.Rat
		on   bool
	}
	var all []spot
	for i, p := range c {
		q := c[(i+1)%len(c)]
		all = append(all, spot{big.NewRat(int64(p.X), 1), big.NewRat(int64(p.Y), 1), p.On})
		if !p.On && !q.On {
			all = append(all, spot{big.NewRat(int64(p.X+q.X), 2), big.NewRat(int64(p.Y+q.Y), 2), true})
		}
	}
	half := big.NewRat(1, 2)
	for i, p := range all {
		if !p.on {
			continue
		}
		q := all[(i+1)%len(all)]
		r := q
		if q.on {
			q = spot{x: new(big.Rat).Add(p.x, q.x), y: new(big.Rat).Add(p.y, q.y)}
			q.x.Mul(q.x, half)
			q.y.Mul(q.y, half)
		} else {
			r = all[(i+2)%len(all)]
		}
		l = append(l, [3][2]*big.Rat{{p.x, p.y}, {q.x, q.y}, {r.x, r.y}})
	}
	return l
}

func coefficients(p [3][2]*big.Rat, k int) (a, b, c *big.Rat) {
	two := big.NewRat(2, 1)
	a = new(big.Rat).Sub(p[0][k], new(big.Rat).Mul(two, p[1][k]))
	a.Add(a, p[2][k])
	b = new(big.Rat).Mul(two, new(big.Rat).Sub(p[1][k], p[0][k]))
	return a, b, p[0][k]
}

func value(a, b, c, t *big.Rat) *big.Rat {
	v := new(big.Rat).Mul(a, t)
	v.Mul(v.Add(v, b), t)
	return v.Add(v, c)
}

// slowWinding follows the words of the chapter with numbers of 400 bits.
func slowWinding(c [][]api.Point, x, y int) int {
	winding := 0
	yr := big.NewRat(int64(y), 1)
	float := func(r *big.Rat) *big.Float { return new(big.Float).SetPrec(400).SetRat(r) }
	for _, contour := range c {
		for _, p := range slowPieces(contour) {
			a, b, cc := coefficients(p, 1)
			cuts := []*big.Rat{new(big.Rat), big.NewRat(1, 1)}
			if a.Sign() != 0 {
				t := new(big.Rat).Quo(b, new(big.Rat).Mul(big.NewRat(-2, 1), a))
				if t.Sign() > 0 && t.Cmp(cuts[1]) < 0 {
					cuts = []*big.Rat{cuts[0], t, cuts[1]}
				}
			}
			for i := 1; i < len(cuts); i++ {
				y0, y1 := value(a, b, cc, cuts[i-1]), value(a, b, cc, cuts[i])
				turn := 0
				if y0.Cmp(yr) <= 0 && yr.Cmp(y1) < 0 {
					turn = 1
				} else if y1.Cmp(yr) <= 0 && yr.Cmp(y0) < 0 {
					turn = -1
				} else {
					continue
				}
				shifted := new(big.Rat).Sub(cc, yr)
				t := new(big.Float).SetPrec(400)
				if a.Sign() == 0 {
					t = float(new(big.Rat).Quo(shifted, new(big.Rat).Neg(b)))
				} else {
					d := new(big.Rat).Mul(b, b)
					d.Sub(d, new(big.Rat).Mul(big.NewRat(4, 1), new(big.Rat).Mul(a, shifted)))
					root := new(big.Float).SetPrec(400).Sqrt(float(d))
					if turn < 0 {
						root.Neg(root)
					}
					t.Sub(root, float(b))
					t.Quo(t, float(new(big.Rat).Mul(big.NewRat(2, 1), a)))
				}
				xa, xb, xc := coefficients(p, 0)
				v := new(big.Float).SetPrec(400).Mul(float(xa), t)
				v.Mul(v.Add(v, float(xb)), t)
				v.Add(v, float(xc))
				v.Sub(v, big.NewFloat(float64(x)))
				small := new(big.Float).SetMantExp(big.NewFloat(1), -150)
				if v.Cmp(small) < 0 {
					winding += turn
				}
			}
		}
	}
	return winding
}

func randomContours(r *rand.Rand, from, to int) (c [][]api.Point) {
	step := []int{1, 1, 8, 16, 32}[r.Intn(5)]
	for range 1 + r.Intn(3) {
		contour := make([]api.Point, 1+r.Intn(6))
		for i := range contour {
			contour[i] = api.Point{X: from + r.Intn((to-from)/step+1)*step, Y: from + r.Intn((to-from)/step+1)*step, On: r.Intn(2) == 0}
		}
		c = append(c, contour)
	}
	return c
}

// P11.1
func TestInside(t *testing.T) {
	curve := [][]api.Point{{{X: 0, Y: 0, On: true}, {X: 64, Y: 0}, {X: 64, Y: 64, On: true}, {X: 0, Y: 64, On: true}}}
	if !Inside(curve, 32, 32) {
		t.Error("the curve of the example")
	}
	r := rand.New(rand.NewSource(11))
	inside := 0
	for k := range 1500 {
		from, to := -200, 200
		if k%5 == 0 {
			from, to = -4096, 4096
		}
		c := randomContours(r, from, to)
		for range 12 {
			x, y := from+r.Intn(to-from+1), from+r.Intn(to-from+1)
			if p := c[0][r.Intn(len(c[0]))]; r.Intn(3) == 0 {
				y = p.Y
			} else if r.Intn(3) == 0 {
				x = p.X
			}
			want := slowWinding(c, x, y) != 0
			if Inside(c, x, y) != want {
				t.Fatalf("%v at %d, %d: %v", c, x, y, !want)
			}
			if want {
				inside++
			}
		}
	}
	if inside < 1000 {
		t.Error("too few are inside", inside)
	}
	for _, x := range []int{4097, -4097, math.MaxInt, math.MinInt} {
		all := [][]api.Point{square(-4096, 4096)}
		if !Inside(all, 0, 0) || Inside(all, x, 0) || Inside(all, 0, x) || Inside(append(all, on(x, 0)), 0, 0) || Inside(append(all, on(0, x)), 0, 0) {
			t.Errorf("%d is near", x)
		}
	}
	if Inside(nil, 0, 0) || Inside([][]api.Point{nil, {}}, 0, 0) {
		t.Error("nothing")
	}
}

// P11.2
func TestFillExamples(t *testing.T) {
	for k, x := range []struct {
		c    [][]api.Point
		want api.Bitmap
		e    api.Errno
	}{
		{[][]api.Point{square(0, 128)}, api.Bitmap{Width: 2, Height: 2, Rows: []uint64{3, 3}}, api.OK},
		{[][]api.Point{on(0, 0, 128, 0, 0, 128)}, api.Bitmap{Width: 1, Height: 1, Rows: []uint64{1}}, api.OK},
		{[][]api.Point{square(10, 60)}, api.Bitmap{Width: 1, Height: 1, Rows: []uint64{1}}, api.OK},
		{[][]api.Point{square(33, 60)}, api.Bitmap{}, api.OK},
		{[][]api.Point{square(32, 96)}, api.Bitmap{Width: 1, Height: 1, Rows: []uint64{1}}, api.OK},
		{[][]api.Point{off(0, 0, 128, 0, 128, 128, 0, 128)}, api.Bitmap{Width: 2, Height: 2, Rows: []uint64{3, 3}}, api.OK},
		{[][]api.Point{square(0, 64), turned(square(0, 64))}, api.Bitmap{}, api.OK},
		{nil, api.Bitmap{}, api.OK},
		{[][]api.Point{{}}, api.Bitmap{}, api.OK},
		{[][]api.Point{on(5, 5)}, api.Bitmap{}, api.OK},
		{[][]api.Point{square(0, 4095)}, fullBitmap(0), api.OK},
		{[][]api.Point{square(0, 4096)}, api.Bitmap{}, api.ErrRange},
		{[][]api.Point{square(-1, 4094)}, api.Bitmap{}, api.ErrRange},
		{[][]api.Point{on(0, 0, 4096, 0)}, api.Bitmap{}, api.ErrRange},
		{[][]api.Point{on(0, 0, 0, 4096)}, api.Bitmap{}, api.ErrRange},
		{[][]api.Point{on(4097, 0)}, api.Bitmap{}, api.ErrRange},
		{[][]api.Point{on(0, -4097)}, api.Bitmap{}, api.ErrRange},
		{[][]api.Point{on(math.MinInt, math.MaxInt)}, api.Bitmap{}, api.ErrRange},
		{[][]api.Point{square(4000, 4096)}, api.Bitmap{Left: 62, Top: 62, Width: 2, Height: 2, Rows: []uint64{3, 3}}, api.OK},
		{[][]api.Point{on(-4096, -4096, -4032, -4096, -4032, -4032, -4096, -4032)}, api.Bitmap{Left: -64, Top: -64, Width: 1, Height: 1, Rows: []uint64{1}}, api.OK},
	} {
		got, e := Fill(x.c)
		if !Same(got, x.want) || e != x.e {
			t.Errorf("outline %d: %v %v", k, got, e)
		}
	}
}

func fullBitmap(left int) api.Bitmap {
	b := api.Bitmap{Left: left, Width: 64, Height: 64}
	for range 64 {
		b.Rows = append(b.Rows, math.MaxUint64)
	}
	return b
}

// P11.2
func TestFillIsInside(t *testing.T) {
	r := rand.New(rand.NewSource(12))
	for range 400 {
		c := randomContours(r, -300, 500)
		b, e := Fill(c)
		if e != api.OK || !Right(b) || !Same(Trim(b), b) {
			t.Fatalf("%v: %v %v", c, b, e)
		}
		for y := -8; y < 12; y++ {
			for x := -8; x < 12; x++ {
				if Get(b, x, y) != Inside(c, 64*x+32, 64*y+32) {
					t.Fatalf("%v: pixel %d, %d", c, x, y)
				}
			}
		}
	}
}

// P11.6
func TestOtherForms(t *testing.T) {
	r := rand.New(rand.NewSource(13))
	for range 300 {
		c := randomContours(r, -300, 500)
		b, _ := Fill(c)
		var begin, around, middles, moved [][]api.Point
		for _, contour := range c {
			k := r.Intn(len(contour))
			begin = append([][]api.Point{append(slices.Clone(contour[k:]), contour[:k]...)}, begin...)
			around = append(around, turned(contour))
			var with, far []api.Point
			for i, p := range contour {
				q := contour[(i+1)%len(contour)]
				with = append(with, p)
				if p.On == q.On && (p.X+q.X)%2 == 0 && (p.Y+q.Y)%2 == 0 {
					with = append(with, api.Point{X: (p.X + q.X) / 2, Y: (p.Y + q.Y) / 2, On: true})
				}
				far = append(far, api.Point{X: p.X + 64*7, Y: p.Y - 64*9, On: p.On})
			}
			middles, moved = append(middles, with), append(moved, far)
		}
		for k, other := range [][][]api.Point{begin, around, middles} {
			if got, e := Fill(other); e != api.OK || !Same(got, b) {
				t.Fatalf("form %d of %v", k, c)
			}
		}
		if got, _ := Fill(moved); !Same(got, Move(b, 7, -9)) {
			t.Fatalf("%v moved", c)
		}
	}
}

func randomBitmap(r *rand.Rand) api.Bitmap {
	b := api.Bitmap{Left: r.Intn(60) - 30, Top: r.Intn(60) - 30, Width: 1 + r.Intn(64), Height: 1 + r.Intn(64)}
	for range b.Height {
		row := r.Uint64() & r.Uint64() & r.Uint64()
		b.Rows = append(b.Rows, row&(1<<b.Width-1))
	}
	return b
}

// P11.3
func TestBitmaps(t *testing.T) {
	rows := []uint64{1}
	for k, x := range []struct {
		b    api.Bitmap
		want bool
	}{
		{api.Bitmap{}, true}, {api.Bitmap{Rows: []uint64{}}, true}, {api.Bitmap{Left: 1}, false}, {api.Bitmap{Width: 1}, false}, {api.Bitmap{Rows: rows}, false}, {api.Bitmap{Width: 1, Height: 1, Rows: rows}, true},
		{api.Bitmap{Width: 1, Height: 1, Rows: []uint64{2}}, false}, {api.Bitmap{Width: 65, Height: 1, Rows: rows}, false}, {api.Bitmap{Width: 64, Height: 1, Rows: []uint64{1 << 63}}, true}, {api.Bitmap{Width: 1, Height: 2, Rows: rows}, false},
		{api.Bitmap{Width: 1, Height: 65, Rows: make([]uint64, 65)}, false}, {api.Bitmap{Width: -1, Height: 1, Rows: rows}, false}, {api.Bitmap{Width: 1, Height: 0}, false},
		{api.Bitmap{Left: -10000, Top: -10000, Width: 1, Height: 1, Rows: rows}, true}, {api.Bitmap{Left: -10001, Width: 1, Height: 1, Rows: rows}, false}, {api.Bitmap{Top: -10001, Width: 1, Height: 1, Rows: rows}, false},
		{api.Bitmap{Left: 10000, Top: 10000, Width: 1, Height: 1, Rows: rows}, true}, {api.Bitmap{Left: 10000, Width: 2, Height: 1, Rows: rows}, false}, {api.Bitmap{Top: 10001, Width: 1, Height: 1, Rows: rows}, false},
		{api.Bitmap{Left: math.MaxInt, Width: 1, Height: 1, Rows: rows}, false},
	} {
		if Right(x.b) != x.want {
			t.Errorf("bitmap %d", k)
		}
	}
	b := api.Bitmap{Left: -2, Top: 3, Width: 2, Height: 2, Rows: []uint64{1, 2}}
	for y := 1; y < 7; y++ {
		for x := -5; x < 3; x++ {
			if Get(b, x, y) != (x == -2 && y == 3 || x == -1 && y == 4) {
				t.Errorf("pixel %d, %d", x, y)
			}
		}
	}
	if Get(b, math.MinInt, 3) || Get(b, math.MaxInt, math.MaxInt) || Get(api.Bitmap{Width: 1, Height: 1, Rows: []uint64{3}}, 0, 0) {
		t.Error("pixels that are none")
	}
	same := api.Bitmap{Left: -2, Top: 3, Width: 2, Height: 2, Rows: []uint64{1, 2}}
	if !Same(b, same) || !Same(api.Bitmap{}, api.Bitmap{Rows: []uint64{}}) {
		t.Error("equal bitmaps")
	}
	for k, other := range []api.Bitmap{{Left: -1, Top: 3, Width: 2, Height: 2, Rows: same.Rows}, {Left: -2, Top: 2, Width: 2, Height: 2, Rows: same.Rows}, {Left: -2, Top: 3, Width: 3, Height: 2, Rows: same.Rows}, {Left: -2, Top: 3, Width: 2, Height: 3, Rows: same.Rows}, {Left: -2, Top: 3, Width: 2, Height: 2, Rows: []uint64{1, 3}}, {Left: -2, Top: 3, Width: 2, Height: 2, Rows: []uint64{1}}} {
		if Same(b, other) {
			t.Errorf("difference %d", k)
		}
	}
}

// P11.4, P11.7
func TestTrimAndMove(t *testing.T) {
	b := api.Bitmap{Left: 5, Top: -2, Width: 6, Height: 4, Rows: []uint64{0, 0b1100, 0b0100, 0}}
	trimmed := Trim(b)
	if !Same(trimmed, api.Bitmap{Left: 7, Top: -1, Width: 2, Height: 2, Rows: []uint64{3, 1}}) || !Same(Trim(trimmed), trimmed) {
		t.Error(trimmed)
	}
	if !Same(Trim(api.Bitmap{Width: 3, Height: 2, Rows: []uint64{0, 0}}), api.Bitmap{}) || !Same(Trim(api.Bitmap{Width: 1, Height: 1, Rows: []uint64{2}}), api.Bitmap{}) || !Same(Trim(api.Bitmap{}), api.Bitmap{}) {
		t.Error("no pixels")
	}
	r := rand.New(rand.NewSource(14))
	for range 300 {
		b := randomBitmap(r)
		given := copyOf(b)
		c := Trim(b)
		for y := -32; y < 100; y++ {
			for x := -32; x < 100; x++ {
				if Get(b, x, y) != Get(c, x, y) {
					t.Fatalf("pixel %d, %d of %v", x, y, b)
				}
			}
		}
		if !Same(Trim(c), c) || !Same(b, given) {
			t.Fatal("Trim of a trimmed one, or b has changed")
		}
	}
	one := api.Bitmap{Width: 1, Height: 1, Rows: []uint64{1}}
	for _, x := range []struct {
		dx, dy int
		ok     bool
	}{{3, -4, true}, {-10000, 10000, true}, {-10001, 0, false}, {0, 10001, false}, {math.MaxInt, 0, false}, {0, math.MinInt, false}} {
		want := api.Bitmap{}
		if x.ok {
			want = api.Bitmap{Left: x.dx, Top: x.dy, Width: 1, Height: 1, Rows: []uint64{1}}
		}
		if got := Move(one, x.dx, x.dy); !Same(got, want) {
			t.Errorf("Move by %d, %d: %v", x.dx, x.dy, got)
		}
	}
	far := Move(one, 10000, 0)
	if !Same(Move(far, math.MaxInt, 0), api.Bitmap{}) || !Same(Move(api.Bitmap{}, 1, 1), api.Bitmap{}) || !Same(Move(api.Bitmap{Width: 2}, 1, 1), api.Bitmap{}) {
		t.Error("Move of others")
	}
	moved := Move(one, 1, 1)
	if moved.Rows[0] = 0; one.Rows[0] != 1 {
		t.Error("Move shares memory")
	}
}

// P11.5, P11.7
func TestOr(t *testing.T) {
	one := api.Bitmap{Width: 1, Height: 1, Rows: []uint64{1}}
	wrong := api.Bitmap{Width: 1, Height: 1, Rows: []uint64{2}}
	for k, x := range []struct {
		a, b, want api.Bitmap
		e          api.Errno
	}{
		{one, wrong, api.Bitmap{}, api.ErrArg}, {wrong, api.Bitmap{}, api.Bitmap{}, api.ErrArg}, {one, api.Bitmap{}, one, api.OK}, {api.Bitmap{}, one, one, api.OK}, {api.Bitmap{}, api.Bitmap{}, api.Bitmap{}, api.OK},
		{one, Move(one, 63, 0), api.Bitmap{Width: 64, Height: 1, Rows: []uint64{1<<63 | 1}}, api.OK}, {one, Move(one, 64, 0), api.Bitmap{}, api.ErrRange}, {one, Move(one, 0, -64), api.Bitmap{}, api.ErrRange},
		{one, Move(one, -1, 2), api.Bitmap{Left: -1, Width: 2, Height: 3, Rows: []uint64{2, 0, 1}}, api.OK},
	} {
		got, e := Or(x.a, x.b)
		other, f := Or(x.b, x.a)
		if e != x.e || f != e || !Same(got, x.want) || !Same(other, got) {
			t.Errorf("Or %d: %v %v", k, got, e)
		}
	}
	r := rand.New(rand.NewSource(15))
	for range 300 {
		a, b := randomBitmap(r), randomBitmap(r)
		c, e := Or(a, b)
		wide := max(a.Left+a.Width, b.Left+b.Width)-min(a.Left, b.Left) > 64 || max(a.Top+a.Height, b.Top+b.Height)-min(a.Top, b.Top) > 64
		if (e == api.ErrRange) != wide {
			t.Fatalf("%v and %v: %v", a, b, e)
		}
		for y := -32; y < 100 && e == api.OK; y++ {
			for x := -32; x < 100; x++ {
				if Get(c, x, y) != (Get(a, x, y) || Get(b, x, y)) {
					t.Fatalf("pixel %d, %d", x, y)
				}
			}
		}
		if same, _ := Or(a, a); !Same(same, a) {
			t.Fatal("Or of a bitmap and itself")
		}
	}
	got, _ := Or(one, api.Bitmap{})
	if got.Rows[0] = 0; one.Rows[0] != 1 {
		t.Error("Or shares memory")
	}
}
