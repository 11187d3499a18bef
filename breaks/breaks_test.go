package breaks

import (
	"math"
	"math/rand"
	"slices"
	"testing"

	"abugida/chars"
	"abugida/cluster"
)

// slowMay follows the words of the chapter, line by line.
func slowMay(s string) []int {
	l := cluster.Split(s)
	var out []int
	for k, c := range l {
		head, end := int(s[cluster.Base(s, c)]), chars.Class(int(s[c.To-1]))
		next := -1
		if k+1 < len(l) {
			next = int(s[cluster.Base(s, l[k+1])])
		}
		n := 0
		switch {
		case chars.Class(head) == 1:
			n = 2
		case next < 0:
		case chars.Class(next) == 1 || chars.Class(next) == 2 || chars.Class(next) == 4:
		case chars.Class(head) == 2 || end == 14:
			n = 1
		case end == 13:
		case head == 45 || chars.Script(head) == 3 && chars.Script(next) == 3:
			n = 1
		}
		out = append(out, n)
	}
	return out
}

// P8.1
func TestMay(t *testing.T) {
	for _, x := range []struct {
		text string
		want []int
	}{
		{"@A B-C", []int{0, 0, 1, 0, 1, 0}}, {"\x98\x99\xf0\x9a\xf1@", []int{1, 0, 1, 0}}, {"@\nA", []int{0, 2, 0}}, {"", nil},
		{"\n", []int{2}}, {"@\n", []int{0, 2}}, {" \n", []int{0, 2}}, {"@ ", []int{0, 0}}, {"-!", []int{0, 0}}, {"\x98\x99", []int{1, 0}}, {"\x98@", []int{0, 0}},
		{" \xf0@", []int{1, 0}}, {"-\xf0@", []int{0, 0}}, {"@\xf1!", []int{0, 0}}, {"-\xc8@", []int{1, 0}}, {"  @", []int{0, 1, 0}},
	} {
		if got := May(x.text); !slices.Equal(got, x.want) {
			t.Errorf("May of %q: %v", x.text, got)
		}
	}
	r := rand.New(rand.NewSource(3))
	some := []byte{10, 32, 32, 33, 45, 48, 65, 97, 104, 152, 153, 184, 200, 240, 241}
	for range 3000 {
		s := make([]byte, r.Intn(16))
		for i := range s {
			s[i] = some[r.Intn(len(some))]
		}
		if got := May(string(s)); !slices.Equal(got, slowMay(string(s))) {
			t.Fatalf("May of %v: %v", s, got)
		}
	}
}

func clamp(n int) int { return max(0, min(n, 10000)) }

func slowFits(widths []int, spaces []bool, from, to, width int) bool {
	sum := 0
	last := from - 1
	for i := from; i <= to; i++ {
		if !spaces[i] {
			last = i
		}
	}
	for i := from; i <= last; i++ {
		sum += clamp(widths[i])
	}
	return sum <= clamp(width)
}

// slowFill follows the words of the chapter.
func slowFill(widths, may []int, spaces []bool, width int) []int {
	n := min(len(widths), len(may), len(spaces))
	var lines []int
	for first, line := 0, 0; first < n; line++ {
		end := -1
		for i := first; i < n && end < 0; i++ {
			if may[i] == 2 {
				if slowFits(widths, spaces, first, i, width) {
					end = i
				}
				break
			}
		}
		if end < 0 {
			k := first
			for i := first; i < n; i++ {
				if slowFits(widths, spaces, first, i, width) {
					k = i
				}
			}
			end = k
			for i := first; i <= k && k < n-1; i++ {
				if may[i] == 1 {
					end = i
				}
			}
		}
		for ; first <= end; first++ {
			lines = append(lines, line)
		}
	}
	return lines
}

// P8.2
func TestFill(t *testing.T) {
	no := make([]bool, 4)
	for _, x := range []struct {
		widths, may []int
		spaces      []bool
		width       int
		want        []int
	}{
		{[]int{3, 2, 4, 2}, []int{0, 1, 0, 0}, no, 6, []int{0, 0, 1, 1}},
		{[]int{3, 2, 4, 2}, []int{0, 1, 0, 0}, no, 4, []int{0, 1, 2, 3}},
		{[]int{3, 2, 3}, []int{0, 1, 0}, []bool{false, true, false}, 3, []int{0, 0, 1}},
		{[]int{1, 1, 1}, []int{0, 2, 0}, no, 9, []int{0, 0, 1}},
		{[]int{-5, math.MinInt, 1}, []int{0, 0, 0}, no, 1, []int{0, 0, 0}},
		{[]int{math.MaxInt, math.MaxInt}, []int{0, 0}, no, 10000, []int{0, 1}},
		{[]int{10000, 1}, []int{0, 0}, no, math.MaxInt, []int{0, 1}},
		{[]int{0, 1}, []int{0, 0}, no, -3, []int{0, 1}},
		{[]int{1, 1, 1}, []int{1, 7, -1}, no, 2, []int{0, 1, 1}},
		{[]int{1, 1, 1}, []int{0, 0}, no, 9, []int{0, 0}},
		{[]int{1, 1, 1}, []int{0, 0, 0}, no[:1], 9, []int{0}},
		{nil, []int{0}, no, 9, nil},
		{[]int{9, 9}, []int{2, 1}, no, 3, []int{0, 1}},
	} {
		if got := Fill(x.widths, x.may, x.spaces, x.width); !slices.Equal(got, x.want) {
			t.Errorf("Fill of %v, %v, %d: %v", x.widths, x.may, x.width, got)
		}
	}
}

// P8.2, P8.3, P8.4
func TestFillOfElements(t *testing.T) {
	r := rand.New(rand.NewSource(4))
	for range 5000 {
		n := r.Intn(14)
		widths, may, spaces := make([]int, n), make([]int, n), make([]bool, n)
		for i := range n {
			widths[i], may[i], spaces[i] = r.Intn(7)-1, r.Intn(8)/3, r.Intn(4) == 0
		}
		var before []int
		for width := -1; width < 24; width++ {
			got := Fill(widths, may, spaces, width)
			if !slices.Equal(got, slowFill(widths, may, spaces, width)) {
				t.Fatalf("Fill of %v, %v, %v, %d: %v", widths, may, spaces, width, got)
			}
			first := 0
			for i, line := range got {
				if i == 0 && line != 0 || i > 0 && (line < got[i-1] || line > got[i-1]+1 || may[i-1] == 2 && line == got[i-1]) {
					t.Fatalf("lines %v", got)
				}
				if i > 0 && line > got[i-1] {
					first = i
				}
				if i > first && !slowFits(widths, spaces, first, i, width) {
					t.Fatalf("the line %d of %v does not fit", line, got)
				}
				if before != nil && line > before[i] {
					t.Fatalf("a wider line gives more lines: %v, %v", before, got)
				}
			}
			before = got
		}
	}
}
