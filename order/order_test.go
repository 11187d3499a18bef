package order

import (
	"math"
	"math/rand"
	"slices"
	"strings"
	"testing"

	"abugida/api"
	"abugida/chars"
	"abugida/cluster"
)

// write reads the letters of the chapter's examples: R and S are letters of script 2.
func write(s string) string {
	return strings.NewReplacer("a", "@", "b", "A", "R", "h", "S", "i").Replace(s)
}

func randomText(r *rand.Rand) string {
	some := []byte{10, 32, 33, 48, 49, 65, 97, 104, 105, 128, 144, 160, 184, 193, 240, 241, 250}
	l := make([]byte, r.Intn(20))
	for i := range l {
		l[i] = some[r.Intn(len(some))]
	}
	return string(l)
}

// slowLevels follows the words of the chapter, character by character.
func slowLevels(s string) []int {
	base := 1
	for i := len(s) - 1; i >= 0; i-- {
		if k := chars.Strong(int(s[i])); k == 1 || k == 2 {
			base = k
		}
	}
	kind := func(i int) int {
		c := cluster.Split(s)[cluster.At(s, i)]
		return chars.Strong(int(s[cluster.Base(s, c)]))
	}
	strong := func(i int) int { // of a character that is not neutral
		for k := i; k >= 0; k-- {
			if x := kind(k); x == 1 || x == 2 {
				return x
			}
		}
		return base
	}
	var l []int
	for i := range len(s) {
		direction := base
		if kind(i) != 0 {
			direction = strong(i)
		} else if s[i] != 10 {
			a, b := i, i
			for a >= 0 && kind(a) == 0 {
				a--
			}
			for b < len(s) && kind(b) == 0 {
				b++
			}
			before, after := base, base
			if a >= 0 {
				before = strong(a)
			}
			if b < len(s) {
				after = strong(b)
			}
			if before == after {
				direction = before
			}
		}
		switch {
		case direction == 2 && kind(i) != 3:
			l = append(l, 1)
		case kind(i) == 3 && direction == 2 || direction == 1 && base == 2:
			l = append(l, 2)
		default:
			l = append(l, 0)
		}
	}
	return l
}

// P7.1, P7.2
func TestExamples(t *testing.T) {
	for _, x := range []struct {
		text   string
		right  bool
		levels []int
	}{
		{"ab 12", false, []int{0, 0, 0, 0, 0}}, {"a RS b", false, []int{0, 0, 1, 1, 0, 0}}, {"RS 12 a", true, []int{1, 1, 1, 2, 2, 1, 2}},
		{"12 R", true, []int{2, 2, 1, 1}}, {"a R 1", false, []int{0, 0, 1, 1, 2}}, {"", false, nil}, {"12", false, []int{0, 0}},
		{"R a 1", true, []int{1, 1, 2, 2, 2}}, {"R\na", true, []int{1, 1, 2}}, {"a R\nR", false, []int{0, 0, 1, 0, 1}},
	} {
		s := write(x.text)
		if Right(s) != x.right || !slices.Equal(Levels(s), x.levels) {
			t.Errorf("%q: %v %v", x.text, Right(s), Levels(s))
		}
	}
}

// P7.1, P7.2, P7.3, P7.5
func TestLevelsOfTexts(t *testing.T) {
	r := rand.New(rand.NewSource(8))
	for range 4000 {
		s := randomText(r)
		levels := Levels(s)
		if !slices.Equal(levels, slowLevels(s)) {
			t.Fatalf("%v: %v, not %v", []byte(s), levels, slowLevels(s))
		}
		for _, c := range cluster.Split(s) {
			for i := c.From; i < c.To; i++ {
				if levels[i] != levels[c.From] || levels[i] < 0 || levels[i] > 2 {
					t.Fatalf("%v: %v", []byte(s), levels)
				}
			}
		}
		place := 0
		for k, run := range Runs(s) {
			if run.From != place || run.To <= run.From || k > 0 && Runs(s)[k-1].Level == run.Level {
				t.Fatalf("%v: runs %v", []byte(s), Runs(s))
			}
			for ; place < run.To; place++ {
				if levels[place] != run.Level {
					t.Fatalf("%v: runs %v", []byte(s), Runs(s))
				}
			}
		}
		if place != len(s) {
			t.Fatalf("%v: runs %v", []byte(s), Runs(s))
		}
		left := strings.Map(func(c rune) rune { return 'A' + c%5 }, s)
		if slices.Max(append(Levels(left), 0)) != 0 {
			t.Fatalf("%q: a level without script 2", left)
		}
	}
	if got := Levels("h i! \n h"); slices.Min(got) != 1 || slices.Max(got) != 1 {
		t.Error("script 2 and neutral ones alone", got)
	}
	want := []api.Run{{From: 0, To: 2, Level: 0}, {From: 2, To: 4, Level: 1}, {From: 4, To: 5, Level: 2}}
	if got := Runs(write("a R 1")); !slices.Equal(got, want) {
		t.Error(got)
	}
}

// P7.4
func TestVisual(t *testing.T) {
	for _, x := range []struct{ levels, want []int }{
		{[]int{0, 0, 1, 1, 0, 0}, []int{0, 1, 3, 2, 4, 5}}, {[]int{1, 1, 1, 2, 2, 1, 2}, []int{6, 5, 3, 4, 2, 1, 0}}, {nil, nil},
		{[]int{-5, 1, 1, math.MinInt}, []int{0, 2, 1, 3}}, {[]int{10, math.MaxInt, 9}, []int{2, 1, 0}}, {[]int{9, 8, 8}, []int{0, 1, 2}},
	} {
		if got := Visual(x.levels); !slices.Equal(got, x.want) {
			t.Errorf("Visual of %v: %v", x.levels, got)
		}
	}
}

func slowVisual(levels []int) []int {
	var l []int
	for i := range levels {
		l = append(l, i)
	}
	for n := 9; n >= 1; n-- {
		for i := 0; i < len(l); i++ {
			k := i
			for k < len(l) && max(0, min(9, levels[l[k]])) >= n {
				k++
			}
			if k > i {
				slices.Reverse(l[i:k])
				i = k
			}
		}
	}
	return l
}

// P7.4, P7.6
func TestVisualOrder(t *testing.T) {
	r := rand.New(rand.NewSource(9))
	for range 3000 {
		levels := make([]int, r.Intn(12))
		for i := range levels {
			levels[i] = r.Intn(8)
		}
		given := slices.Clone(levels)
		got := Visual(levels)
		if !slices.Equal(got, slowVisual(levels)) || !slices.Equal(levels, given) {
			t.Fatalf("Visual of %v: %v", levels, got)
		}
		sorted := slices.Sorted(slices.Values(got))
		for i, k := range sorted {
			if i != k {
				t.Fatalf("Visual of %v: %v", levels, got)
			}
		}
		for i := 1; i < len(levels); i++ {
			if levels[i] == levels[i-1] && slices.Index(got, i)-slices.Index(got, i-1) != 1-2*(levels[i]%2) {
				t.Fatalf("neighbours of %v: %v", levels, got)
			}
		}
		for i := range levels {
			levels[i]++
		}
		turned := Visual(levels)
		slices.Reverse(turned)
		for i := range levels {
			levels[i]++
		}
		if !slices.Equal(turned, got) || !slices.Equal(Visual(levels), got) {
			t.Fatalf("higher levels of %v", given)
		}
	}
}
