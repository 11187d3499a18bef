package flow

import (
	"fmt"
	"math"
	"math/rand"
	"reflect"
	"slices"
	"strings"
	"testing"

	"abugida/api"
	"abugida/breaks"
	"abugida/chars"
	"abugida/cluster"
	"abugida/font"
	"abugida/forms"
	"abugida/order"
)

func cores() []api.Core {
	return []api.Core{
		{Chars: []api.Char{{Code: 32, Width: 16}, {Code: 64, Width: 32}, {Code: 65, Width: 40}}, Pairs: []api.Pair{{Left: 64, Right: 65, By: -8}}},
		{Chars: []api.Char{{Code: 104, Width: 64}, {Code: 65, Width: 64}}},
	}
}

func column(l []api.Place, of func(api.Place) int) (out []int) {
	for _, p := range l {
		out = append(out, of(p))
	}
	return out
}

// P29.1, P29.3, P29.4
func TestExamples(t *testing.T) {
	text := "@A hA\n!"
	set := api.Setting{Size: 8}
	if got := Fonts(cores(), text); !slices.Equal(got, []int{0, 0, 0, 1, 0, -1, -1}) {
		t.Error(got)
	}
	if got := Widths(cores(), text, set); !slices.Equal(got, []int{4, 4, 2, 8, 5, 0, 4}) {
		t.Error(got)
	}
	l := Places(cores(), text, set, 10)
	lines := column(l, func(p api.Place) int { return p.Line })
	xs := column(l, func(p api.Place) int { return p.X })
	if !slices.Equal(lines, []int{0, 0, 0, 1, 2, 2, 3}) || !slices.Equal(xs, []int{0, 4, 8, 0, 0, 5, 0}) {
		t.Error(lines, xs)
	}
	if got := Places(cores(), "hA", set, 20); !slices.Equal(got, []api.Place{{Cluster: 0, Font: 1, X: 12, Width: 8}, {Cluster: 1, Font: 0, X: 7, Width: 5}}) {
		t.Error(got)
	}
	if Fonts(nil, "A\xf0") == nil || Fonts(nil, "A")[0] != -1 || Fonts(cores(), "\xf0\xf1")[0] != 0 || Fonts(nil, "\xf0")[0] != -1 || Fonts(cores(), "") != nil {
		t.Error("clusters without visible characters, or without cores")
	}
	if Fonts(cores(), "A\xf0a")[0] != -1 || Fonts(append(cores(), api.Core{Chars: []api.Char{{Code: 65}, {Code: 97}}}), "A\xf0a")[0] != 2 {
		t.Error("a cluster that needs two characters")
	}
}

// P29.2
func TestSetting(t *testing.T) {
	for _, x := range []struct {
		axes     int
		at, want []int
	}{{0, []int{1, 2}, []int{}}, {1, []int{5, 2}, []int{5}}, {3, []int{5, 2}, []int{5, 2, 0}}, {2, nil, []int{0, 0}}, {2, []int{5, 2}, []int{5, 2}}} {
		set := api.Setting{Size: 7, At: x.at, Features: 96}
		got := Setting(api.Core{Axes: make([]api.Axis, x.axes)}, set)
		if !reflect.DeepEqual(got, api.Setting{Size: 7, At: x.want, Features: 96}) {
			t.Errorf("%v for %d axes: %v", x.at, x.axes, got)
		}
		if len(got.At) > 0 && len(x.at) > 0 {
			if got.At[0]++; set.At[0] == got.At[0] {
				t.Error("the setting is shared")
			}
		}
	}
}

// P29.3, P29.4
func TestSettingsThatAreNotFit(t *testing.T) {
	for k, set := range []api.Setting{{Size: 3}, {Size: 33}, {Size: 8, At: make([]int, 4)}, {Size: 8, At: []int{65}}, {Size: 8, At: []int{0, -65}}, {}} {
		if Widths(cores(), "A", set) != nil || Places(cores(), "A", set, 10) != nil {
			t.Errorf("setting %d", k)
		}
	}
	if Widths(cores(), "A", api.Setting{Size: 8, At: []int{-64, 64, 0}}) == nil {
		t.Error("a setting that is fit")
	}
}

func axes(n int) (l []api.Axis) {
	for range n {
		l = append(l, api.Axis{Name: "a", Map: [][2]int{{0, 0}}})
	}
	return l
}

func randomCores(r *rand.Rand) []api.Core {
	var l []api.Core
	for range r.Intn(4) {
		c := api.Core{Axes: axes(1), Regions: []api.Region{{Tents: []api.Tent{{From: 0, Peak: 64, To: 64}}}}}
		for _, code := range []int{10, 32, 45, 48, 64, 65, 97, 104, 128, 144, 160, 184, 192} {
			if r.Intn(3) > 0 {
				x := api.Char{Code: code, Width: r.Intn(100)}
				if r.Intn(2) == 0 {
					x.Wide = []api.Grow{{Region: 0, By: r.Intn(128) - 64}}
				}
				if r.Intn(20) == 0 {
					x.Wide = []api.Grow{{Region: 3}}
				}
				c.Chars = append(c.Chars, x)
			}
			if r.Intn(2) == 0 {
				c.Pairs = append(c.Pairs, api.Pair{Left: code, Right: []int{64, 65, 97, 104, 32}[r.Intn(5)], By: r.Intn(128) - 64})
			}
		}
		l = append(l, c)
	}
	return l
}

func randomText(r *rand.Rand) string {
	some := []byte{10, 32, 32, 45, 48, 64, 65, 97, 104, 104, 128, 144, 160, 184, 192, 240, 241, 33}
	s := make([]byte, r.Intn(20))
	for i := range s {
		s[i] = some[r.Intn(len(some))]
	}
	return string(s)
}

// slowWidths follows the words of the chapter.
func slowWidths(cores []api.Core, s string, set api.Setting) (l []int) {
	fonts := Fonts(cores, s)
	var before []int
	for k, c := range cluster.Split(s) {
		var visible []int
		for i := c.From; i < c.To; i++ {
			if slices.Contains(forms.Order(s, c), i) {
				visible = append(visible, int(s[i]))
			}
		}
		n := 0
		if chars.Class(int(s[cluster.Base(s, c)])) == api.ChLine {
		} else if fonts[k] < 0 {
			n = set.Size / 2
		} else {
			core := cores[fonts[k]]
			for i, code := range visible {
				w, _ := font.Width(core, code, Setting(core, set))
				n += w
				if i > 0 {
					n += font.Between(core, visible[i-1], code, set.Size)
				}
			}
			if k > 0 && fonts[k-1] == fonts[k] && len(before) > 0 && len(visible) > 0 {
				n += font.Between(core, before[len(before)-1], visible[0], set.Size)
			}
		}
		l = append(l, max(0, n))
		before = visible
	}
	return l
}

// P29.1, P29.3, P29.4, P29.5, P29.6, P29.7
func TestParagraphs(t *testing.T) {
	r := rand.New(rand.NewSource(29))
	for range 3000 {
		cores, s := randomCores(r), randomText(r)
		set := api.Setting{Size: 4 + r.Intn(29), At: []int{r.Intn(129) - 64}}
		fonts, clusters := Fonts(cores, s), cluster.Split(s)
		for k, c := range clusters {
			want := -1
			for i := len(cores) - 1; i >= 0 && s[c.From] != 10; i-- {
				all := true
				for _, place := range forms.Order(s, c) {
					_, has := font.Glyph(cores[i], int(s[place]))
					all = all && has
				}
				if all {
					want = i
				}
			}
			if fonts[k] != want {
				t.Fatalf("fonts of %q: %v", s, fonts)
			}
		}
		widths := Widths(cores, s, set)
		if !slices.Equal(widths, slowWidths(cores, s, set)) {
			t.Fatalf("widths of %q: %v", s, widths)
		}
		spaces := make([]bool, len(clusters))
		levels := make([]int, len(clusters))
		for k, c := range clusters {
			spaces[k] = chars.Class(int(s[cluster.Base(s, c)])) == api.ChSpace
			levels[k] = order.Levels(s)[c.From]
		}
		width := r.Intn(100)
		l := Places(cores, s, set, width)
		numbers := breaks.Fill(widths, breaks.May(s), spaces, width)
		for k, p := range l {
			if p.Para != 0 || p.Cluster != k || p.Font != fonts[k] || p.Line != numbers[k] || p.Width != widths[k] {
				t.Fatalf("places of %q: %v", s, l)
			}
		}
		for line := range 30 {
			var on, at []int
			sum := 0
			for k, n := range numbers {
				if n == line {
					on, at = append(on, k), append(at, levels[k])
					sum += widths[k]
				}
			}
			x := 0
			if order.Right(s) {
				x = width - sum
			}
			for _, i := range order.Visual(at) {
				if l[on[i]].X != x {
					t.Fatalf("places of %q: %v", s, l)
				}
				x += widths[on[i]]
			}
		}
		changed := slices.Clone(cores)
		for k := range changed {
			changed[k].Root, changed[k].Glyphs, changed[k].Version, changed[k].Heads = "x", 7, 9, make([]api.Head, 3)
		}
		if !slices.Equal(Places(changed, s, set, width), l) {
			t.Fatal("places depend on more")
		}
		more := randomCores(r)
		if after := Fonts(append(slices.Clone(cores), more...), s); true {
			for k := range after {
				if fonts[k] >= 0 && after[k] != fonts[k] {
					t.Fatalf("a further font changes %d of %q", k, s)
				}
			}
		}
		for k, p := range Places(cores, s, set, width+7) {
			if p.Line > l[k].Line {
				t.Fatalf("a wider line of %q", s)
			}
		}
	}
}

// P29.4
func TestLongTexts(t *testing.T) {
	s := strings.Repeat("@A hA ", 5000)
	l := Places(cores(), s, api.Setting{Size: 8}, 50)
	if len(l) != 30000 || l[29999].Line < 1000 {
		t.Error("a long text", len(l))
	}
	for _, width := range []int{math.MinInt, math.MaxInt, -1, 0} {
		if got := Places(cores(), "hA @A", api.Setting{Size: 8}, width); len(got) != 5 {
			t.Error(fmt.Sprint(width), got)
		}
	}
}
