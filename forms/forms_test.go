package forms

import (
	"math"
	"math/rand"
	"slices"
	"testing"

	"abugida/api"
	"abugida/chars"
	"abugida/cluster"
)

func randomText(r *rand.Rand) string {
	some := []byte{10, 32, 33, 65, 97, 104, 104, 105, 128, 129, 144, 160, 184, 192, 240, 241, 250}
	l := make([]byte, r.Intn(16))
	for i := range l {
		l[i] = some[r.Intn(len(some))]
	}
	return string(l)
}

// slowForms follows the words of the chapter.
func slowForms(s string) []int {
	l := cluster.Split(s)
	head := func(k int) int { return chars.Class(int(s[cluster.Base(s, l[k])])) }
	end := func(k int) int { return chars.Class(int(s[l[k].To-1])) }
	on := func(k int) bool {
		return head(k) == 7 && end(k) != 14 && (end(k) == 13 || k+1 < len(l) && (head(k+1) == 7 || head(k+1) == 8))
	}
	to := func(k int) bool { return k > 0 && on(k-1) && (head(k) == 7 || head(k) == 8) }
	var out []int
	for k := range l {
		form := 0
		switch {
		case head(k) == 7 && to(k) && on(k):
			form = 3
		case head(k) == 7 && on(k):
			form = 2
		case head(k) == 7 && to(k), head(k) == 8 && to(k):
			form = 4
		case head(k) == 7 || head(k) == 8:
			form = 1
		}
		out = append(out, form)
	}
	return out
}

// P17.1
func TestForms(t *testing.T) {
	for _, x := range []struct {
		text string
		want []int
	}{
		{string([]byte{104, 105, 104, 128, 104}), []int{2, 3, 3, 4, 1}}, {string([]byte{104, 144, 105}), []int{2, 4}}, {string([]byte{104, 241, 105}), []int{1, 1}}, {string([]byte{104, 240}), []int{2}}, {string([]byte{104, 32, 105}), []int{1, 0, 1}},
		{string([]byte{128, 240, 104}), []int{1, 1}}, {string([]byte{64, 104}), []int{0, 1}}, {string([]byte{104, 240, 64, 105}), []int{2, 0, 1}}, {"", nil}, {string([]byte{104, 240, 241, 105}), []int{1, 1}}, {string([]byte{104, 241, 240, 105}), []int{2, 4}}, {string([]byte{144, 104}), []int{0, 1}},
	} {
		if got := Forms(x.text); !slices.Equal(got, x.want) {
			t.Errorf("%v: %v", []byte(x.text), got)
		}
	}
}

// P17.1, P17.4, P17.5
func TestFormsOfTexts(t *testing.T) {
	r := rand.New(rand.NewSource(17))
	for range 4000 {
		s := randomText(r)
		got := Forms(s)
		if !slices.Equal(got, slowForms(s)) {
			t.Fatalf("%v: %v, not %v", []byte(s), got, slowForms(s))
		}
		l := cluster.Split(s)
		for k, form := range got {
			if (form == 2 || form == 3) && s[l[k].To-1] != 240 && (k+1 == len(got) || got[k+1] != 3 && got[k+1] != 4) {
				t.Fatalf("%v: nothing follows %d in %v", []byte(s), k, got)
			}
			if (form == 3 || form == 4) && (k == 0 || got[k-1] != 2 && got[k-1] != 3) {
				t.Fatalf("%v: nothing comes before %d in %v", []byte(s), k, got)
			}
		}
		other := randomText(r)
		if len(other) > 0 && chars.Extends(int(other[0])) {
			continue
		}
		for _, c := range []string{"\n", " ", "!"} {
			want := append(append(slices.Clone(got), 0), Forms(other)...)
			if !slices.Equal(Forms(s+c+other), want) {
				t.Fatalf("%v, %q, %v", []byte(s), c, []byte(other))
			}
		}
	}
}

// P17.2, P17.6
func TestOrder(t *testing.T) {
	s := string([]byte{152, 184, 152, 192, 200, 240})
	if got := Order(s, api.Span{From: 0, To: 6}); !slices.Equal(got, []int{3, 0, 1, 2, 4}) {
		t.Error(got)
	}
	if got := Order(s, api.Span{From: 2, To: 5}); !slices.Equal(got, []int{3, 2, 4}) {
		t.Error(got)
	}
	if got := Order(string([]byte{152, 192, 241, 193}), api.Span{From: 0, To: 4}); !slices.Equal(got, []int{1, 3, 0}) {
		t.Error(got)
	}
	for _, c := range []api.Span{{From: -1, To: 2}, {From: 2, To: 2}, {From: 3, To: 2}, {From: 0, To: 7}, {From: math.MinInt, To: math.MaxInt}, {From: 5, To: 6}} {
		if got := Order(s, c); len(got) > 0 {
			t.Errorf("%v: %v", c, got)
		}
	}
	r := rand.New(rand.NewSource(18))
	for range 1000 {
		s := randomText(r)
		for _, c := range cluster.Split(s) {
			var want []int
			for i := c.From; i < c.To; i++ {
				if s[i] != 240 && s[i] != 241 {
					want = append(want, i)
				}
			}
			if got := Order(s, c); !slices.Equal(slices.Sorted(slices.Values(got)), want) {
				t.Fatalf("%v of %v: %v", c, []byte(s), got)
			}
		}
	}
}

// P17.3
func TestMay(t *testing.T) {
	forms := []int{1, 2, 0, 3, 4}
	all, none := []bool{true, true, true, true, true}, make([]bool, 5)
	for _, x := range []struct {
		feature, wanted int
		want            []bool
	}{
		{0, 0, all}, {2, 0, []bool{false, true, false, false, false}}, {1, -1, []bool{true, false, false, false, false}}, {3, 0, []bool{false, false, false, true, false}}, {4, 0, []bool{false, false, false, false, true}},
		{6, 64, all}, {6, 32, none}, {5, 32, all}, {9, 512, all}, {9, 511, none}, {10, -1, none}, {-1, -1, none}, {1 << 40, -1, none}, {math.MinInt, -1, none}, {7, -1, all},
	} {
		if got := May(forms, x.feature, x.wanted); !slices.Equal(got, x.want) {
			t.Errorf("feature %d, wanted %d: %v", x.feature, x.wanted, got)
		}
	}
	if len(May(nil, 0, 0)) != 0 {
		t.Error("no forms")
	}
}
