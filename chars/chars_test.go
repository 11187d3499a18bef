package chars

import (
	"math"
	"slices"
	"testing"
)

// table is that of the chapter, written once more: from, to, class, script.
var table = [][4]int{{10, 10, 1, 0}, {32, 32, 2, 0}, {33, 47, 4, 0}, {48, 57, 3, 0}, {64, 95, 5, 1}, {96, 103, 6, 1}, {104, 127, 7, 2}, {128, 143, 8, 2}, {144, 151, 6, 2}, {152, 183, 9, 3}, {184, 184, 10, 3}, {185, 191, 11, 3}, {192, 199, 12, 3}, {200, 207, 6, 3}, {240, 240, 13, 0}, {241, 241, 14, 0}}

func expected(c int) (class, script int) {
	for _, r := range table {
		if c >= r[0] && c <= r[1] {
			return r[2], r[3]
		}
	}
	return 0, 0
}

// P5.1 to P5.4
func TestCharacters(t *testing.T) {
	l := []int{math.MinInt, math.MaxInt, -1, -246, 1000, 256 + 64}
	for c := -20; c < 300; c++ {
		l = append(l, c)
	}
	for _, c := range l {
		class, script := expected(c)
		if Class(c) != class || Script(c) != script {
			t.Errorf("%d: class %d, script %d", c, Class(c), Script(c))
		}
		strong := []int{0, 1, 2, 1}[script]
		if class == 3 {
			strong = 3
		}
		if Strong(c) != strong {
			t.Errorf("%d: strong %d", c, Strong(c))
		}
		before, after := Joins(c)
		if before != (class == 7 || class == 8) || after != (class == 7) {
			t.Errorf("%d: joins %v %v", c, before, after)
		}
		if Extends(c) != slices.Contains([]int{6, 10, 11, 12, 13, 14}, class) {
			t.Errorf("%d: extends %v", c, Extends(c))
		}
	}
}

// P5.5
func TestCodes(t *testing.T) {
	if l := Codes(1); len(l) != 40 || l[0] != 64 || l[39] != 103 {
		t.Error("script 1", l)
	}
	if len(Codes(2)) != 48 || len(Codes(3)) != 56 || len(Codes(0)) != 256-40-48-56 {
		t.Error("how many")
	}
	for _, s := range []int{-1, 4, math.MaxInt, math.MinInt} {
		if Codes(s) != nil {
			t.Errorf("script %d", s)
		}
	}
	l := Codes(3)
	l[0] = 0
	if Codes(3)[0] != 152 {
		t.Error("a result is shared")
	}
}

// P5.6
func TestScriptsShareNothing(t *testing.T) {
	seen := map[int]int{}
	classes := map[int]bool{}
	for s := range 4 {
		codes := Codes(s)
		if !slices.IsSorted(codes) {
			t.Errorf("script %d is not in order", s)
		}
		for _, c := range codes {
			seen[c]++
			before, after := Joins(c)
			if Extends(c) && (before || after) {
				t.Errorf("%d extends and joins", c)
			}
			if extends, known := classes[Class(c)]; known && extends != Extends(c) {
				t.Errorf("class of %d", c)
			}
			classes[Class(c)] = Extends(c)
		}
	}
	for c := range 256 {
		if seen[c] != 1 {
			t.Errorf("%d is in %d scripts", c, seen[c])
		}
	}
}
