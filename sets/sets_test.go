package sets

import (
	"math"
	"math/rand"
	"slices"
	"testing"
)

func equal(t *testing.T, what string, got []int, want ...int) {
	t.Helper()
	if !slices.Equal(got, want) {
		t.Errorf("%s: %v, not %v", what, got, want)
	}
}

// P15.1 to P15.4
func TestExamples(t *testing.T) {
	equal(t, "Norm", Norm([]int{3, 1, 3, -2}), -2, 1, 3)
	a, b := []int{5, 1}, []int{2, 5, 5}
	equal(t, "Join", Join(a, b), 1, 2, 5)
	equal(t, "Meet", Meet(a, b), 5)
	equal(t, "Less", Less(a, b), 1)
	equal(t, "Less with doubles", Less([]int{4, 4, 3, 3}, []int{3}), 4)
	equal(t, "Meet with doubles", Meet([]int{4, 4}, []int{3}))
	if Overlap([]int{1, 2}, []int{3}) || Overlap(nil, nil) || Overlap([]int{1, 1}, nil) || !Overlap([]int{2, 1}, []int{7, 1}) {
		t.Error("Overlap")
	}
	equal(t, "Range", Range(-1, 2), -1, 0, 1)
	equal(t, "no Range", Range(2, 2))
	equal(t, "no Range", Range(3, 2))
	equal(t, "a long Range", Range(0, 4097))
	equal(t, "the longest Range", Range(math.MinInt, math.MaxInt))
	equal(t, "a turned Range", Range(math.MaxInt, math.MinInt))
	equal(t, "the last Range", Range(math.MaxInt-1, math.MaxInt), math.MaxInt-1)
	if len(Range(-5, 4091)) != 4096 {
		t.Error("a Range of 4096")
	}
	if Right([]int{1, 1}) || !Right([]int{1, 2}) || !Right(nil) || Right([]int{1, 3, 2}) || !Right([]int{math.MinInt, math.MaxInt}) {
		t.Error("Right")
	}
	if !Has([]int{9, 3, 9}, 3) || Has([]int{9, 3}, 4) || Has(nil, 0) {
		t.Error("Has")
	}
	given := []int{3, 1}
	Norm(given)[0] = 9
	Join(given, given)
	equal(t, "the argument", given, 3, 1)
}

func random(r *rand.Rand) []int {
	l := make([]int, r.Intn(9))
	for i := range l {
		l[i] = r.Intn(12) - 4
	}
	return l
}

// P15.5, P15.6
func TestLaws(t *testing.T) {
	r := rand.New(rand.NewSource(15))
	for range 3000 {
		a, b, c := random(r), random(r), random(r)
		turned := slices.Clone(a)
		slices.Reverse(turned)
		join, meet, less := Join(a, b), Meet(a, b), Less(a, b)
		for n := -6; n < 10; n++ {
			x, y := slices.Contains(a, n), slices.Contains(b, n)
			if Has(Norm(a), n) != x || Has(join, n) != (x || y) || Has(meet, n) != (x && y) || Has(less, n) != (x && !y) {
				t.Fatalf("%d in %v and %v", n, a, b)
			}
		}
		for _, l := range [][]int{Norm(a), join, meet, less} {
			if !Right(l) || !slices.Equal(Norm(l), l) {
				t.Fatalf("%v is no set", l)
			}
		}
		same := slices.Equal[[]int]
		if !same(join, Join(b, turned)) || !same(meet, Meet(b, append(turned, a...))) || !same(less, Less(turned, b)) {
			t.Fatalf("the order of %v and %v", a, b)
		}
		if Overlap(meet, less) || !same(Join(meet, less), Norm(a)) || Overlap(a, b) != (len(meet) > 0) {
			t.Fatalf("parts of %v and %v", a, b)
		}
		if !same(Join(join, c), Join(a, Join(b, c))) || !same(Meet(meet, c), Meet(a, Meet(b, c))) || !same(Less(a, Join(b, c)), Meet(less, Less(a, c))) {
			t.Fatalf("%v, %v and %v", a, b, c)
		}
		if len(join)+len(meet) != len(Norm(a))+len(Norm(b)) || len(Join(join, c)) < len(join) {
			t.Fatalf("numbers of %v and %v", a, b)
		}
	}
}
