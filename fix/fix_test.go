package fix

import (
	"math"
	"math/big"
	"math/rand"
	"testing"

	"abugida/api"
)

// exact returns n / d rounded in the way: -1 down, 0 to the nearest (of two the greater one), 1 up.
func exact(n, d *big.Int, way int) int {
	quotient, rest := new(big.Int), new(big.Int)
	quotient.DivMod(n, d, rest)
	twice := new(big.Int).Lsh(rest, 1)
	if way == 1 && rest.Sign() > 0 || way == 0 && twice.Cmp(d) >= 0 {
		quotient.Add(quotient, big.NewInt(1))
	}
	return int(quotient.Int64())
}

func numbers(r *rand.Rand) []int {
	l := []int{0, 1, 2, 3, 63, 64, 65, -1, -2, -64, api.MaxValue, -api.MaxValue, api.MaxValue + 1, -api.MaxValue - 1, math.MaxInt, math.MinInt, math.MaxInt - 1, math.MinInt + 1, math.MaxInt / 2, math.MaxInt/2 + 1}
	for range 60 {
		l = append(l, int(r.Uint64())>>r.Intn(64))
	}
	return l
}

// P1.1, P1.7
func TestRoundings(t *testing.T) {
	l := numbers(rand.New(rand.NewSource(1)))
	for _, n := range l {
		for _, d := range l {
			near, one := Round(n, d)
			down, two := Down(n, d)
			up, three := Up(n, d)
			if d < 1 {
				if one || two || three || near != 0 || down != 0 || up != 0 {
					t.Fatalf("%d / %d is permitted", n, d)
				}
				continue
			}
			a, b := big.NewInt(int64(n)), big.NewInt(int64(d))
			if !one || !two || !three || near != exact(a, b, 0) || down != exact(a, b, -1) || up != exact(a, b, 1) {
				t.Fatalf("%d / %d: %d %d %d", n, d, down, near, up)
			}
			if down > near || near > up || up != down && up != down+1 {
				t.Fatalf("order of %d / %d: %d %d %d", n, d, down, near, up)
			}
			if n != math.MinInt {
				if other, _ := Down(-n, d); up != -other {
					t.Fatalf("opposite of %d / %d: %d and %d", n, d, up, other)
				}
			}
			if n < math.MaxInt {
				if next, _ := Round(n+1, d); next < near {
					t.Fatalf("order of %d and the next one by %d", n, d)
				}
			}
		}
	}
}

// P1.2
func TestMul(t *testing.T) {
	for _, x := range []struct {
		a, b, want int
		ok         bool
	}{
		{96, 96, 144, true}, {-1, 32, 0, true}, {-1, 33, -1, true}, {1, 31, 0, true}, {1, 32, 1, true},
		{api.MaxValue, -api.MaxValue, -1 << 34, true}, {2 * api.MaxValue, 1, 0, false},
		{api.MaxValue + 1, 0, 0, false}, {0, -api.MaxValue - 1, 0, false}, {math.MinInt, 1, 0, false},
	} {
		if got, ok := Mul(x.a, x.b); got != x.want || ok != x.ok {
			t.Errorf("Mul of %d and %d: %d %v", x.a, x.b, got, ok)
		}
	}
}

func scalars() []api.Scalar {
	var l []api.Scalar
	for _, den := range []int{1, 2, 3, 4, 5, 6, 7, 64, 512, 513, 262143, 262144} {
		for _, num := range []int{0, 1, 2, 3, 5, den / 2, den - 1, den} {
			l = append(l, api.Scalar{Num: num, Den: den})
		}
	}
	return append(l, api.Scalar{}, api.Scalar{Num: 1, Den: 262145}, api.Scalar{Num: -1, Den: 2}, api.Scalar{Num: 1, Den: -2}, api.Scalar{Num: 0, Den: -1}, api.Scalar{Num: 3, Den: 2}, api.Scalar{Num: math.MaxInt, Den: math.MaxInt}, api.Scalar{Num: math.MinInt, Den: 1})
}

func isRight(s api.Scalar) bool {
	if s.Den < 1 || s.Den > 262144 || s.Num < 0 || s.Num > s.Den {
		return false
	}
	return new(big.Int).GCD(nil, nil, big.NewInt(int64(s.Num)), big.NewInt(int64(s.Den))).Int64() == 1
}

// P1.3
func TestPart(t *testing.T) {
	for _, s := range scalars() {
		for _, a := range []int{0, 1, -1, 10, -10, 777, api.MaxValue, -api.MaxValue, api.MaxValue + 1, -api.MaxValue - 1, math.MaxInt} {
			got, ok := Part(a, s)
			if ok != (isRight(s) && a >= -api.MaxValue && a <= api.MaxValue) {
				t.Fatalf("Part of %d and %v: %v", a, s, ok)
			}
			want := 0
			if ok {
				want = exact(big.NewInt(int64(64*a*s.Num)), big.NewInt(int64(s.Den)), 0)
			}
			if got != want {
				t.Fatalf("Part of %d and %v: %d, not %d", a, s, got, want)
			}
		}
	}
	if got, _ := Part(-10, api.Scalar{Num: 1, Den: 3}); got != -213 {
		t.Error("example", got)
	}
}

// P1.4, P1.8
func TestTimes(t *testing.T) {
	one, none := api.Scalar{Num: 1, Den: 1}, api.Scalar{Num: 0, Den: 1}
	for _, a := range scalars() {
		for _, b := range scalars() {
			got, ok := Times(a, b)
			var want api.Scalar
			may := isRight(a) && isRight(b)
			if may {
				r := big.NewRat(int64(a.Num*b.Num), int64(a.Den)*int64(b.Den))
				may = r.Denom().Int64() <= 262144
				if may {
					want = api.Scalar{Num: int(r.Num().Int64()), Den: int(r.Denom().Int64())}
				}
			}
			if ok != may || got != want {
				t.Fatalf("%v times %v: %v %v, not %v", a, b, got, ok, want)
			}
			if other, _ := Times(b, a); other != got {
				t.Fatalf("%v times %v depends on the order", a, b)
			}
		}
		if !isRight(a) {
			continue
		}
		if got, ok := Times(a, one); got != a || !ok {
			t.Fatalf("%v times 1", a)
		}
		if got, ok := Times(a, none); got != none || !ok {
			t.Fatalf("%v times 0", a)
		}
	}
}

// P1.5, P1.8
func TestLine(t *testing.T) {
	for _, to := range [][2]int{{10, 3}, {7, -20}, {1, 0}, {api.MaxValue, api.MaxValue}, {api.MaxValue, -api.MaxValue}} {
		from := [2]int{-5, 4}
		last := from[1]
		for x := from[0]; x <= to[0]; x += 1 + to[0]/1000 {
			got, ok := Line(x, from, to)
			n := from[1]*(to[0]-from[0]) + (to[1]-from[1])*(x-from[0])
			if !ok || got != exact(big.NewInt(int64(n)), big.NewInt(int64(to[0]-from[0])), 0) {
				t.Fatalf("Line at %d to %v: %d", x, to, got)
			}
			if to[1] >= from[1] && got < last || to[1] <= from[1] && got > last {
				t.Fatalf("Line at %d to %v is not in order", x, to)
			}
			last = got
		}
		if got, ok := Line(to[0], from, to); got != to[1] || !ok {
			t.Fatalf("Line at its end %v: %d", to, got)
		}
		if got, ok := Line(from[0], from, to); got != from[1] || !ok {
			t.Fatalf("Line at its beginning: %d", got)
		}
	}
	great := api.MaxValue + 1
	for _, x := range []struct {
		x        int
		from, to [2]int
	}{
		{11, [2]int{0, 0}, [2]int{10, 3}}, {-1, [2]int{0, 0}, [2]int{10, 3}}, {0, [2]int{0, 0}, [2]int{0, 3}}, {0, [2]int{1, 0}, [2]int{0, 3}},
		{0, [2]int{0, 0}, [2]int{great, 3}}, {0, [2]int{0, great}, [2]int{1, 3}}, {0, [2]int{0, 0}, [2]int{1, -great}}, {0, [2]int{-great, 0}, [2]int{1, 0}},
	} {
		if got, ok := Line(x.x, x.from, x.to); ok || got != 0 {
			t.Errorf("Line of %v is permitted", x)
		}
	}
}

// P1.6
func TestClamp(t *testing.T) {
	for _, x := range [][4]int{{5, 1, 3, 3}, {0, 1, 3, 1}, {2, 1, 3, 2}, {5, 9, 3, 9}, {1, 9, 3, 9}, {math.MinInt, 0, math.MaxInt, 0}} {
		if got := Clamp(x[0], x[1], x[2]); got != x[3] {
			t.Errorf("Clamp of %v: %d", x, got)
		}
	}
}
