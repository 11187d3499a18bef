package axes

import (
	"math"
	"math/big"
	"math/rand"
	"testing"

	"abugida/api"
	"abugida/fix"
)

func weight() api.Axis {
	return api.Axis{Name: "wght", Min: 100, Default: 400, Max: 900, Map: [][2]int{{100, -64}, {400, 0}, {700, 16}, {900, 64}}}
}

func tents(l ...[3]int) api.Region {
	var r api.Region
	for _, t := range l {
		r.Tents = append(r.Tents, api.Tent{From: t[0], Peak: t[1], To: t[2]})
	}
	return r
}

// P9.1
func TestCheck(t *testing.T) {
	change := func(f func(*api.Axis)) api.Axis {
		a := weight()
		f(&a)
		return a
	}
	for k, x := range []struct {
		a    api.Axis
		want api.Errno
	}{
		{weight(), api.OK},
		{api.Axis{}, api.ErrName},
		{change(func(a *api.Axis) { a.Name = "abcdefghij12" }), api.OK},
		{change(func(a *api.Axis) { a.Name = "abcdefghij123" }), api.ErrName},
		{change(func(a *api.Axis) { a.Name = "a0z9" }), api.OK},
		{change(func(a *api.Axis) { a.Name = "1a" }), api.ErrName},
		{change(func(a *api.Axis) { a.Name = "aB" }), api.ErrName},
		{change(func(a *api.Axis) { a.Name = "a b"; a.Map = nil }), api.ErrName},
		{change(func(a *api.Axis) { a.Map = nil }), api.ErrAxis},
		{change(func(a *api.Axis) { a.Min = 99 }), api.ErrAxis},
		{change(func(a *api.Axis) { a.Max = 901 }), api.ErrAxis},
		{change(func(a *api.Axis) { a.Default = 401 }), api.ErrAxis},
		{change(func(a *api.Axis) { a.Default = 700 }), api.ErrAxis},
		{change(func(a *api.Axis) { a.Default = 99 }), api.ErrAxis},
		{change(func(a *api.Axis) { a.Map[2][0] = 400 }), api.ErrAxis},
		{change(func(a *api.Axis) { a.Map[2][1] = -1 }), api.ErrAxis},
		{change(func(a *api.Axis) { a.Map[2][1] = 0 }), api.OK},
		{change(func(a *api.Axis) { a.Map[3][1] = 65 }), api.ErrAxis},
		{change(func(a *api.Axis) { a.Map[0][1] = -65 }), api.ErrAxis},
		{change(func(a *api.Axis) { a.Min, a.Map[0][0] = -10000, -10000 }), api.OK},
		{change(func(a *api.Axis) { a.Min, a.Map[0][0] = -10001, -10001 }), api.ErrAxis},
		{change(func(a *api.Axis) { a.Max, a.Map[3][0] = 10001, 10001 }), api.ErrAxis},
		{change(func(a *api.Axis) { a.Map = [][2]int{{100, -3}, {200, -2}, {300, -1}, {400, 0}, {500, 1}, {900, 2}} }), api.OK},
		{change(func(a *api.Axis) {
			a.Map = [][2]int{{100, -3}, {200, -2}, {300, -1}, {400, 0}, {500, 1}, {600, 1}, {900, 2}}
		}), api.ErrAxis},
		{api.Axis{Name: "a", Map: [][2]int{{0, 0}}}, api.OK},
	} {
		if got := Check(x.a); got != x.want {
			t.Errorf("axis %d: %v", k, got)
		}
	}
}

// P9.2, P9.7
func TestNormal(t *testing.T) {
	for v, want := range map[int]int{100: -64, 250: -32, 400: 0, 550: 8, 800: 40, 2000: 64, 101: -64, math.MinInt: -64, math.MaxInt: 64, 700: 16, 900: 64} {
		if got := Normal(weight(), v); got != want {
			t.Errorf("Normal of %d: %d", v, got)
		}
	}
	last := -64
	for v := 0; v < 1000; v++ {
		got := Normal(weight(), v)
		if got < last || got > 64 {
			t.Fatalf("Normal of %d: %d", v, got)
		}
		last = got
	}
	wrong := weight()
	wrong.Map = nil
	if Normal(wrong, 800) != 0 {
		t.Error("a wrong axis")
	}
}

// P9.3
func TestRight(t *testing.T) {
	for _, x := range []struct {
		tent [3]int
		want bool
	}{{[3]int{-1, 1, 5}, false}, {[3]int{5, 5, 5}, true}, {[3]int{-1, 0, 5}, true}, {[3]int{-5, -1, 1}, false}, {[3]int{-5, -1, 0}, true}, {[3]int{0, 1, 64}, true}, {[3]int{0, 1, 65}, false}, {[3]int{-65, -1, 0}, false}, {[3]int{3, 2, 4}, false}, {[3]int{1, 4, 3}, false}, {[3]int{}, true}} {
		if Right(tents(x.tent), 1) != x.want {
			t.Errorf("tent %v", x.tent)
		}
	}
	zero := [3]int{}
	if Right(tents(zero), 2) || Right(tents(zero, zero), 1) || !Right(tents(), 0) || !Right(tents(zero, zero, zero), 3) || Right(tents(zero, zero, zero, zero), 4) || Right(tents(), -1) {
		t.Error("numbers of axes")
	}
	for _, x := range []struct {
		l    [][2]int
		axes int
		want bool
	}{{nil, 0, true}, {nil, 1, false}, {[][2]int{{-64, 64}}, 1, true}, {[][2]int{{1, 0}}, 1, false}, {[][2]int{{-65, 0}}, 1, false}, {[][2]int{{0, 65}}, 1, false}, {make([][2]int, 4), 4, false}, {make([][2]int, 3), 3, true}, {nil, -1, false}} {
		if Ranges(x.l, x.axes) != x.want {
			t.Errorf("ranges %v for %d", x.l, x.axes)
		}
	}
	if !Within(nil, nil) || !Within([]int{3, 4}, [][2]int{{3, 5}, {0, 4}}) || Within([]int{2, 4}, [][2]int{{3, 5}, {0, 4}}) || Within([]int{3, 5}, [][2]int{{3, 5}, {0, 4}}) || Within([]int{3}, [][2]int{{3, 5}, {0, 4}}) || Within([]int{3}, [][2]int{{3, 65}}) {
		t.Error("Within")
	}
}

func exactStrength(t api.Tent, n int) *big.Rat {
	switch {
	case t.Peak == 0 || n == t.Peak:
		return big.NewRat(1, 1)
	case n <= t.From || n >= t.To:
		return new(big.Rat)
	case n < t.Peak:
		return big.NewRat(int64(n-t.From), int64(t.Peak-t.From))
	}
	return big.NewRat(int64(t.To-n), int64(t.To-t.Peak))
}

func randomTent(r *rand.Rand) api.Tent {
	a, b, c := r.Intn(65), r.Intn(65), r.Intn(65)
	if a > b {
		a, b = b, a
	}
	if b > c {
		b, c = c, b
	}
	if a > b {
		a, b = b, a
	}
	switch r.Intn(5) {
	case 0:
		return api.Tent{From: -a, To: c}
	case 1, 2:
		return api.Tent{From: -c, Peak: -b, To: -a}
	}
	return api.Tent{From: a, Peak: b, To: c}
}

func randomRegion(r *rand.Rand, axes int) api.Region {
	var l api.Region
	for range axes {
		l.Tents = append(l.Tents, randomTent(r))
	}
	return l
}

// P9.4, P9.8
func TestScalar(t *testing.T) {
	r := rand.New(rand.NewSource(5))
	for range 3000 {
		axes := r.Intn(4)
		region := randomRegion(r, axes)
		at, peak := make([]int, axes), make([]int, axes)
		want := big.NewRat(1, 1)
		times := api.Scalar{Num: 1, Den: 1}
		for k := range at {
			at[k], peak[k] = r.Intn(129)-64, region.Tents[k].Peak
			want.Mul(want, exactStrength(region.Tents[k], at[k]))
			times, _ = fix.Times(times, Scalar(api.Region{Tents: region.Tents[k : k+1]}, at[k:k+1]))
		}
		got := Scalar(region, at)
		if int64(got.Num) != want.Num().Int64() || int64(got.Den) != want.Denom().Int64() || got != times {
			t.Fatalf("%v at %v: %v, not %v", region, at, got, want)
		}
		if Scalar(region, peak) != (api.Scalar{Num: 1, Den: 1}) {
			t.Fatalf("%v at its peak", region)
		}
		for k := range at {
			if at[k] != peak[k] {
				near := append([]int{}, at...)
				if near[k]++; at[k] > peak[k] {
					near[k] -= 2
				}
				if s := Scalar(region, near); s.Num*got.Den < got.Num*s.Den {
					t.Fatalf("%v at %v: less towards the peak", region, at)
				}
			}
		}
	}
	zero := api.Scalar{Num: 0, Den: 1}
	if Scalar(tents([3]int{}), []int{65}) != zero || Scalar(tents([3]int{}), nil) != zero || Scalar(tents([3]int{-1, 1, 2}), []int{1}) != zero || Scalar(tents([3]int{}, [3]int{}, [3]int{}, [3]int{}), make([]int, 4)) != zero {
		t.Error("what is not right")
	}
	if got := Scalar(tents([3]int{0, 32, 64}, [3]int{-64, 0, 9}, [3]int{-30, -30, -10}), []int{8, 50, -20}); got != (api.Scalar{Num: 1, Den: 8}) {
		t.Error("example", got)
	}
}

// P9.5, P9.10
func TestSum(t *testing.T) {
	region := []api.Region{tents([3]int{0, 32, 64}), tents([3]int{-1, 1, 2}), tents([3]int{-64, -1, 0})}
	great := api.MaxValue + 1
	for k, x := range []struct {
		base int
		l    []api.Grow
		at   []int
		want int
		ok   bool
	}{
		{10, []api.Grow{{Region: 0, By: 4}, {Region: 0, By: -3}}, []int{16}, 672, true}, {10, nil, nil, 640, true}, {10, nil, []int{65}, 0, false}, {10, nil, make([]int, 4), 0, false},
		{great, nil, nil, 0, false}, {0, []api.Grow{{Region: 0, By: -great}}, []int{0}, 0, false}, {0, []api.Grow{{Region: 3, By: 1}}, []int{0}, 0, false}, {0, []api.Grow{{Region: -1, By: 1}}, []int{0}, 0, false},
		{0, []api.Grow{{Region: 1, By: 1}}, []int{0}, 0, false}, {0, []api.Grow{{Region: 0, By: 1}}, []int{0, 0}, 0, false}, {0, make([]api.Grow, 9), []int{0}, 0, false}, {0, make([]api.Grow, 8), []int{0}, 0, true},
		{-api.MaxValue, []api.Grow{{Region: 0, By: api.MaxValue}}, []int{32}, 0, true},
	} {
		if got, ok := Sum(x.base, x.l, region, x.at); got != x.want || ok != x.ok {
			t.Errorf("sum %d: %d %v", k, got, ok)
		}
	}
	r := rand.New(rand.NewSource(6))
	for range 500 {
		regions := []api.Region{randomRegion(r, 2), randomRegion(r, 2), randomRegion(r, 2)}
		at := []int{r.Intn(129) - 64, r.Intn(129) - 64}
		var l, turned []api.Grow
		want := 64 * 7
		for range r.Intn(8) {
			g := api.Grow{Region: r.Intn(3), By: r.Intn(200) - 100}
			part, _ := fix.Part(g.By, Scalar(regions[g.Region], at))
			want += part
			l, turned = append(l, g), append([]api.Grow{g}, turned...)
		}
		got, ok := Sum(7, l, regions, at)
		again, _ := Sum(7, turned, regions, at)
		cut := r.Intn(len(l) + 1)
		first, _ := Sum(7, l[:cut], regions, at)
		rest, _ := Sum(0, l[cut:], regions, at)
		if !ok || got != want || again != want || first+rest != want {
			t.Fatalf("sum of %v: %d, not %d", l, got, want)
		}
	}
}

// P9.6, P9.9
func TestTouches(t *testing.T) {
	for _, x := range []struct {
		l    [][2]int
		want bool
	}{{[][2]int{{-64, 0}}, false}, {[][2]int{{0, 1}}, true}, {[][2]int{{64, 64}}, false}, {nil, false}, {[][2]int{{1, 0}}, false}, {[][2]int{{1, 65}}, false}, {[][2]int{{1, 5}, {1, 5}}, false}} {
		if Touches(tents([3]int{0, 32, 64}), x.l) != x.want {
			t.Errorf("Touches of %v", x.l)
		}
	}
	if !Touches(api.Region{}, nil) || Touches(tents([3]int{-1, 1, 2}), [][2]int{{-64, 64}}) {
		t.Error("no axes, or no tent")
	}
	for _, x := range []struct {
		tent   [3]int
		within [2]int
		want   bool
	}{{[3]int{5, 5, 9}, [2]int{0, 5}, true}, {[3]int{5, 5, 9}, [2]int{0, 4}, false}, {[3]int{5, 5, 9}, [2]int{5, 5}, true}, {[3]int{2, 5, 5}, [2]int{5, 9}, true}, {[3]int{2, 5, 5}, [2]int{6, 9}, false}, {[3]int{5, 5, 5}, [2]int{5, 5}, true}} {
		if Touches(tents(x.tent), [][2]int{x.within}) != x.want {
			t.Errorf("Touches of %v and %v", x.tent, x.within)
		}
	}
	r := rand.New(rand.NewSource(7))
	for range 5000 {
		region := randomRegion(r, 1)
		a, b := r.Intn(129)-64, r.Intn(129)-64
		l := [][2]int{{min(a, b), max(a, b)}}
		want := false
		for n := l[0][0]; n <= l[0][1]; n++ {
			want = want || Scalar(region, []int{n}).Num > 0
		}
		if Touches(region, l) != want {
			t.Fatalf("%v and %v: %v", region, l, !want)
		}
		wider := [][2]int{{max(-64, l[0][0]-3), min(64, l[0][1]+2)}}
		if want && !Touches(region, wider) {
			t.Fatalf("%v and the wider %v", region, wider)
		}
		other := randomRegion(r, 1)
		two := api.Region{Tents: append(append([]api.Tent{}, region.Tents...), other.Tents...)}
		if Touches(two, [][2]int{l[0], wider[0]}) != (want && Touches(other, wider)) {
			t.Fatalf("two axes: %v", two)
		}
	}
}
