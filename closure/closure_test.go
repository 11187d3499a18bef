package closure

import (
	"fmt"
	"math/rand"
	"slices"
	"strings"
	"testing"

	"abugida/api"
	"abugida/axes"
	"abugida/font"
	"abugida/rules"
	"abugida/shape"
	"abugida/source"
)

func parse(t *testing.T, s string) api.Font {
	t.Helper()
	f, n, e := source.Parse(strings.ReplaceAll(s, ";", "\n"))
	if e != api.OK {
		t.Fatal(n, e)
	}
	return f
}

const glyphs8 = "glyph 1;glyph 1;glyph 1;glyph 1;glyph 1;glyph 1;glyph 1;glyph 1;"

func example(t *testing.T) api.Font {
	return parse(t, "font a 1;lookup 0;rule {2} | {1} | > 4;rule | {3} | call 0:2;lookup 5;rule | {4} | > 5 6;lookup 9;rule | {3} | > 7;char 64 1 1;char 65 2 1;char 66 3 1;"+glyphs8)
}

func request(features int, chars ...int) api.Request {
	return api.Request{Chars: chars, Features: features, Sizes: [2]int{4, 32}}
}

// P23.1
func TestCheck(t *testing.T) {
	c := api.Core{Axes: make([]api.Axis, 2)}
	two := [][2]int{{0, 1}, {-64, 64}}
	for k, x := range []struct {
		chars []int
		sizes [2]int
		axes  [][2]int
		want  api.Errno
	}{
		{[]int{0, 255}, [2]int{4, 32}, two, api.OK}, {nil, [2]int{9, 9}, two, api.OK}, {[]int{5, 5}, [2]int{3, 32}, two, api.ErrChar}, {[]int{6, 5}, [2]int{4, 32}, two, api.ErrChar}, {[]int{-1}, [2]int{4, 32}, two, api.ErrChar}, {[]int{256}, [2]int{4, 32}, two, api.ErrChar},
		{nil, [2]int{3, 32}, nil, api.ErrArg}, {nil, [2]int{4, 33}, two, api.ErrArg}, {nil, [2]int{9, 8}, two, api.ErrArg}, {nil, [2]int{4, 32}, two[:1], api.ErrAxis}, {nil, [2]int{4, 32}, [][2]int{{0, 1}, {1, 0}}, api.ErrAxis}, {nil, [2]int{4, 32}, nil, api.ErrAxis},
	} {
		if got := Check(c, api.Request{Chars: x.chars, Sizes: x.sizes, Axes: x.axes}); got != x.want {
			t.Errorf("request %d: %v", k, got)
		}
	}
}

// P23.2
func TestExamples(t *testing.T) {
	f := example(t)
	for _, x := range []struct {
		q    api.Request
		want []int
	}{{request(0, 64), []int{0, 1}}, {request(0, 64, 65), []int{0, 1, 2, 4}}, {request(32, 64, 65), []int{0, 1, 2, 4, 5, 6}}, {request(0, 66), []int{0, 3, 7}}, {request(512, 66), []int{0, 3, 7}}, {request(0), []int{0}}, {request(0, 1, 2, 255), []int{0}}, {request(-1, 64, 66), []int{0, 1, 3, 7}}} {
		if got := Glyphs(f, x.q); !slices.Equal(got, x.want) {
			t.Errorf("%v: %v", x.q, got)
		}
	}
	want := []api.Step{{Glyph: 0, Why: 1, N: -1}, {Glyph: 1, Why: 1, N: 64}, {Glyph: 2, Why: 1, N: 65}, {Glyph: 4, Why: 2}, {Glyph: 5, Why: 2, N: 1}, {Glyph: 6, Why: 2, N: 1, Out: 1}}
	if got := Steps(f, request(32, 64, 65)); !slices.Equal(got, want) {
		t.Error(got)
	}
	// A lookup that is called waits for the next pass, if it stands before; each pass takes the lookups in order.
	g := parse(t, "font a 1;lookup 0;rule | {5} | > 6 5;rule | {1} | call 0:2;rule | {1} | > 2 2;lookup 7;rule | {2} | > 3;lookup 8;rule | {1} | > 4;rule | {4} {2} | > 5;char 64 1 1;char 65 1 1;char 66 0 1;"+glyphs8)
	want = []api.Step{{Glyph: 0, Why: 1, N: -1}, {Glyph: 1, Why: 1, N: 64}, {Glyph: 2, Why: 2, Rule: 2}, {Glyph: 4, Why: 2, N: 2}, {Glyph: 5, Why: 2, N: 2, Rule: 1}, {Glyph: 6, Why: 2}}
	if got := Steps(g, request(0, 64, 65, 66)); !slices.Equal(got, want) {
		t.Error(got)
	}
	for _, q := range []api.Request{{}, {Chars: []int{2, 1}, Sizes: [2]int{4, 4}}, {Sizes: [2]int{4, 4}, Axes: [][2]int{{0, 0}}}} {
		if Steps(f, q) != nil || Glyphs(f, q) != nil || Need(f, q) != nil {
			t.Errorf("%v is not right", q)
		}
	}
	f.Core.Version = 0
	if q := request(0, 64); Steps(f, q) != nil || Glyphs(f, q) != nil || Need(f, q) != nil {
		t.Error("a font that is not right")
	}
}

// P23.3
func TestNeed(t *testing.T) {
	key := func(kind, n, region int) api.Key { return api.Key{Kind: kind, N: n, Region: region} }
	f := example(t)
	for _, x := range []struct {
		q       api.Request
		lookups []int
	}{{request(32, 64, 65), []int{0, 1}}, {request(0, 64, 65), []int{0}}, {request(0, 66), []int{0, 2}}, {request(512, 65), nil}, {request(512, 66), []int{0, 2}}} {
		var want []api.Key
		for _, n := range x.lookups {
			want = append(want, key(1, n, 0))
		}
		for _, n := range Glyphs(f, x.q) {
			want = append(want, key(2, n, 0))
		}
		if got := Need(f, x.q); !slices.Equal(got, want) {
			t.Errorf("%v: %v", x.q, got)
		}
	}
	g := parse(t, "font a 1;axis w -9 0 64 -9=-64 0=0 64=64;region 0/64/64;region -64/-3/0;char 64 1 1;glyph 3;delta 1 0 0,0;glyph 3;delta 0 0 0,0;delta 1 0 0,0;glyph 3;delta 0 0 0,0;")
	for _, x := range []struct {
		low, high int
		want      []api.Key
	}{{0, 0, nil}, {0, 1, []api.Key{key(3, 1, 0)}}, {-1, 0, []api.Key{key(3, 0, 1), key(3, 1, 1)}}, {-64, 64, []api.Key{key(3, 0, 1), key(3, 1, 0), key(3, 1, 1)}}} {
		q := request(0, 64)
		q.Axes = [][2]int{{x.low, x.high}}
		if got := Need(g, q); !slices.Equal(got, append([]api.Key{key(2, 0, 0), key(2, 1, 0)}, x.want...)) {
			t.Errorf("%d to %d: %v", x.low, x.high, got)
		}
	}
}

// randomFont returns a right font with 4 lookups and 10 glyphs for the characters 64 to 67, 104 and 105.
func randomFont(t *testing.T, r *rand.Rand) api.Font {
	set := func() string {
		a := r.Intn(7)
		return fmt.Sprintf("{%d,%d}", a, a+1+r.Intn(3))
	}
	s := "font a 1;axis w 0 0 64 0=0 64=64;region 0/64/64;region 0/3/20;"
	for k := range 4 {
		s += fmt.Sprintf("lookup %d;", r.Intn(10))
		for range r.Intn(4) {
			s += "rule "
			if r.Intn(3) == 0 {
				s += set() + " "
			}
			s += "| " + set()
			if r.Intn(3) == 0 {
				s += " " + set()
			}
			s += " |"
			if r.Intn(3) == 0 {
				s += " " + set()
			}
			if r.Intn(3) == 0 && k < 3 {
				s += fmt.Sprintf(" call 0:%d;", k+1+r.Intn(3-k))
			} else {
				s += fmt.Sprintf(" > %d %d;", r.Intn(10), r.Intn(10))
			}
		}
	}
	for k, code := range []int{64, 65, 66, 67, 104, 105} {
		s += fmt.Sprintf("char %d %d 1;", code, 1+(k*r.Intn(3))%9)
	}
	for range 10 {
		s += "glyph 1;"
		if r.Intn(2) == 0 {
			s += "delta " + fmt.Sprint(r.Intn(2)) + " 0 0,0;"
		}
	}
	return parse(t, s)
}

// slowGlyphs returns the least set that is closed, without an order.
func slowGlyphs(f api.Font, q api.Request) []int {
	reached := map[int]bool{0: true}
	active := map[int]bool{}
	for _, c := range q.Chars {
		if g, ok := font.Glyph(f.Core, c); ok {
			reached[g] = true
		}
	}
	for k, h := range f.Core.Heads {
		active[k] = h.Feature < 5 || q.Features&(1<<h.Feature) != 0
	}
	for range 200 {
		for k, l := range f.Lookups {
			for _, x := range l.Rules {
				fires := active[k]
				for _, set := range slices.Concat(x.Back, x.In, x.Ahead) {
					fires = fires && slices.ContainsFunc(set, func(n int) bool { return reached[n] })
				}
				for _, n := range x.Out {
					reached[n] = reached[n] || fires
				}
				for _, c := range x.Calls {
					active[c.Lookup] = active[c.Lookup] || fires
				}
			}
		}
	}
	var l []int
	for n := range 100 {
		if reached[n] {
			l = append(l, n)
		}
	}
	return l
}

func randomRequest(r *rand.Rand) api.Request {
	q := request(r.Intn(1024))
	for _, c := range []int{64, 65, 66, 67, 68, 104, 105} {
		if r.Intn(3) == 0 {
			q.Chars = append(q.Chars, c)
		}
	}
	low := r.Intn(60)
	q.Axes = [][2]int{{low, low + r.Intn(64-low)}}
	return q
}

func contains[T comparable](all, some []T) bool {
	for _, x := range some {
		if !slices.Contains(all, x) {
			return false
		}
	}
	return true
}

// P23.2, P23.3, P23.4, P23.5, P23.6
func TestClosures(t *testing.T) {
	r := rand.New(rand.NewSource(23))
	for range 600 {
		f, q := randomFont(t, r), randomRequest(r)
		got, steps := Glyphs(f, q), Steps(f, q)
		if !slices.Equal(got, slowGlyphs(f, q)) {
			t.Fatalf("%v: %v, not %v", q, got, slowGlyphs(f, q))
		}
		var seen []int
		for i, s := range steps {
			if slices.Contains(seen, s.Glyph) {
				t.Fatalf("step %d: twice", i)
			}
			if s.Why == 2 {
				x := f.Lookups[s.N].Rules[s.Rule]
				for _, set := range slices.Concat(x.Back, x.In, x.Ahead) {
					if !slices.ContainsFunc(set, func(n int) bool { return slices.Contains(seen, n) }) {
						t.Fatalf("step %d has no reason", i)
					}
				}
				if x.Out[s.Out] != s.Glyph {
					t.Fatalf("step %d puts another glyph", i)
				}
			} else if g, ok := font.Glyph(f.Core, s.N); s.Why != 1 || s.N >= 0 && (!ok || g != s.Glyph || !slices.Contains(q.Chars, s.N)) || s.N < 0 && (i > 0 || s.Glyph != 0) {
				t.Fatalf("step %d: %v", i, s)
			}
			seen = append(seen, s.Glyph)
		}
		slices.Sort(seen)
		if !slices.Equal(seen, got) {
			t.Fatalf("steps to %v, glyphs %v", seen, got)
		}
		more := q
		more.Chars = slices.Compact(slices.Sorted(slices.Values(append(slices.Clone(q.Chars), 65, 104))))
		more.Features |= r.Intn(1024)
		more.Axes = [][2]int{{q.Axes[0][0] / 2, 64}}
		if !contains(Glyphs(f, more), got) || !contains(Need(f, more), Need(f, q)) {
			t.Fatalf("%v needs less than %v", more, q)
		}
		sized := q
		sized.Sizes = [2]int{7, 7}
		if !slices.Equal(Need(f, sized), Need(f, q)) || !slices.Equal(Steps(f, sized), steps) {
			t.Fatal("sizes play a part")
		}
		needs := Need(f, q)
		for _, n := range got {
			for _, d := range f.Glyphs[n].Deltas {
				if slices.Contains(needs, api.Key{Kind: 3, N: n, Region: d.Region}) != axes.Touches(f.Core.Regions[d.Region], q.Axes) {
					t.Fatalf("delta %d of %d", d.Region, n)
				}
			}
		}
		if len(q.Chars) == 0 {
			continue
		}
		for range 5 {
			var text []byte
			for range r.Intn(12) {
				text = append(text, byte(q.Chars[r.Intn(len(q.Chars))]))
			}
			items, e := shape.Run(f, string(text), q.Features)
			for _, i := range items {
				if e == api.OK && !slices.Contains(got, i.Glyph) {
					t.Fatalf("%v of %v is not reached", i, text)
				}
			}
		}
		for k, l := range f.Lookups {
			if slices.Contains(needs, api.Key{Kind: 1, N: k}) && !slices.ContainsFunc(rules.First(l), func(n int) bool { return slices.Contains(got, n) }) {
				t.Fatalf("the lookup %d is not needed", k)
			}
		}
	}
}
