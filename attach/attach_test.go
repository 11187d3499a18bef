package attach

import (
	"math"
	"math/rand"
	"slices"
	"testing"

	"abugida/api"
)

func glyphs(names string) []api.Drawn {
	all := map[rune]api.Drawn{
		'a': {Advance: 10, Anchors: []api.Anchor{{Class: 1, X: 4, Y: 20}, {Class: 2, X: 5, Y: -2}}},
		'b': {Advance: 6},
		'm': {Advance: 9, Hang: api.Anchor{Class: 1, X: 1}, Anchors: []api.Anchor{{Class: 1, X: 1, Y: 8}}},
		'n': {Hang: api.Anchor{Class: 2, Y: 3}},
		'd': {Advance: -3, Anchors: []api.Anchor{{Class: 1, X: 7}, {Class: 1, X: 9}}},
		'z': {Hang: api.Anchor{Class: -1}, Anchors: []api.Anchor{{Class: -1, X: 3, Y: 2}}},
	}
	var l []api.Drawn
	for _, n := range names {
		l = append(l, all[n])
	}
	return l
}

// P19.1
func TestPlaces(t *testing.T) {
	for _, x := range []struct {
		names string
		want  [][2]int
	}{
		{"aba", [][2]int{{0, 0}, {10, 0}, {16, 0}}}, {"amm", [][2]int{{0, 0}, {3, 20}, {3, 28}}}, {"abmn", [][2]int{{0, 0}, {10, 0}, {3, 20}, {5, -5}}}, {"ma", [][2]int{{0, 0}, {0, 0}}}, {"bna", [][2]int{{0, 0}, {6, 0}, {6, 0}}},
		{"", nil}, {"dma", [][2]int{{0, 0}, {6, 0}, {-3, 0}}}, {"aam", [][2]int{{0, 0}, {10, 0}, {13, 20}}}, {"bzz", [][2]int{{0, 0}, {6, 0}, {9, 2}}}, {"bmm", [][2]int{{0, 0}, {6, 0}, {6, 8}}},
	} {
		if got := Places(glyphs(x.names)); !slices.Equal(got, x.want) {
			t.Errorf("%s: %v", x.names, got)
		}
	}
	if got := Places(make([]api.Drawn, 200)); len(got) != 200 {
		t.Error("200 glyphs")
	}
	if Places(make([]api.Drawn, 201)) != nil {
		t.Error("201 glyphs")
	}
	great := api.MaxValue + 1
	for k, d := range []api.Drawn{{Advance: great}, {Advance: -great}, {Hang: api.Anchor{X: great}}, {Hang: api.Anchor{Y: -great}}, {Hang: api.Anchor{Class: 1, Y: math.MinInt}}, {Anchors: []api.Anchor{{}, {X: great}}}, {Anchors: []api.Anchor{{Y: math.MaxInt}}}} {
		if Places([]api.Drawn{{}, d}) != nil {
			t.Errorf("glyph %d", k)
		}
	}
	most := api.MaxValue
	if Places([]api.Drawn{{Advance: most, Hang: api.Anchor{Class: great, X: -most, Y: most}, Anchors: []api.Anchor{{Class: great, X: most, Y: -most}}}}) == nil {
		t.Error("small numbers, great classes")
	}
}

// P19.2, P19.3
func TestLaws(t *testing.T) {
	r := rand.New(rand.NewSource(19))
	names := []rune("aabmmndz")
	for range 3000 {
		var s []rune
		for range r.Intn(9) {
			s = append(s, names[r.Intn(len(names))])
		}
		l := glyphs(string(s))
		got := Places(l)
		pen := 0
		for k, d := range l {
			if d.Hang.Class == 0 {
				if got[k] != [2]int{pen, 0} {
					t.Fatalf("%s: %v", string(s), got)
				}
				pen += d.Advance
				continue
			}
			want := [2]int{pen, 0}
			for i := k - 1; i >= 0; i-- {
				j := slices.IndexFunc(l[i].Anchors, func(a api.Anchor) bool { return a.Class == d.Hang.Class })
				if j >= 0 {
					want = [2]int{got[i][0] + l[i].Anchors[j].X - d.Hang.X, got[i][1] + l[i].Anchors[j].Y - d.Hang.Y}
					break
				}
			}
			if got[k] != want {
				t.Fatalf("%s: %v", string(s), got)
			}
		}
		cut := r.Intn(len(l) + 1)
		if !slices.Equal(Places(l[:cut]), got[:cut]) {
			t.Fatalf("%s: what stands behind changes places", string(s))
		}
		for k, d := range l {
			if d.Hang.Class != 0 && len(d.Anchors) == 0 {
				without := slices.Delete(slices.Clone(l), k, k+1)
				if !slices.Equal(Places(without), slices.Delete(slices.Clone(got), k, k+1)) {
					t.Fatalf("%s without %d", string(s), k)
				}
			}
		}
		moved := glyphs(string(s))
		for k := range moved {
			if moved[k].Anchors = slices.Clone(moved[k].Anchors); moved[k].Hang.Class == 1 {
				moved[k].Hang.X, moved[k].Hang.Y = moved[k].Hang.X+5, moved[k].Hang.Y-7
			}
			for i := range moved[k].Anchors {
				if a := &moved[k].Anchors[i]; a.Class == 1 {
					a.X, a.Y = a.X+5, a.Y-7
				}
			}
		}
		if !slices.Equal(Places(moved), got) {
			t.Fatalf("%s with moved anchors", string(s))
		}
	}
}
