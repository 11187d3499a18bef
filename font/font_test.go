package font

import (
	"encoding/hex"
	"math"
	"math/rand"
	"reflect"
	"slices"
	"strings"
	"testing"

	"abugida/api"
	"abugida/axes"
	"abugida/fit"
	"abugida/outline"
)

func example() api.Core {
	return api.Core{
		Name: "sans", Version: 3, Glyphs: 2,
		Axes:    []api.Axis{{Name: "wide", Min: 100, Default: 100, Max: 200, Map: [][2]int{{100, 0}, {200, 64}}}},
		Regions: []api.Region{{Tents: []api.Tent{{From: 0, Peak: 64, To: 64}}}},
		Chars:   []api.Char{{Code: 65, Glyph: 1, Width: 30, Wide: []api.Grow{{Region: 0, By: 20}}}},
		Pairs:   []api.Pair{{Left: 65, Right: 65, By: -4}},
	}
}

func exampleFont() api.Font {
	c := example()
	c.Heads = []api.Head{{Feature: 0, First: []int{1}}, {Feature: 5, First: []int{}}}
	return api.Font{
		Core:    c,
		Lookups: []api.Lookup{{Rules: []api.Rule{{Back: [][]int{{0}}, In: [][]int{{1}}, Ahead: [][]int{{0, 1}}, Calls: []api.Call{{At: 0, Lookup: 1}}}}}, {}},
		Glyphs: []api.Glyph{{}, {
			Contours: [][]api.Point{{{X: 0, Y: 0, On: true}, {X: 10, Y: 0, On: true}, {X: 10, Y: 20, On: true}}}, Advance: 30,
			Deltas:  []api.Delta{{Region: 0, Advance: 20, Moves: [][2]int{{0, 0}, {8, 0}, {0, 0}, {0, 0}}}},
			Program: []api.Ins{{Op: api.OpPush, N: 64}, {Op: api.OpSetX, N: 1}},
		}},
	}
}

// P20.1
func TestCheckCore(t *testing.T) {
	for k, x := range []struct {
		want   api.Errno
		change func(c *api.Core)
	}{
		{api.OK, func(c *api.Core) {}},
		{api.ErrName, func(c *api.Core) { c.Name, c.Version = "Sans", 0 }},
		{api.ErrName, func(c *api.Core) { c.Name = "" }},
		{api.ErrVersion, func(c *api.Core) { c.Version, c.Glyphs = 0, 0 }},
		{api.ErrVersion, func(c *api.Core) { c.Version = 1000 }},
		{api.OK, func(c *api.Core) { c.Version = 999 }},
		{api.ErrMany, func(c *api.Core) { c.Axes = make([]api.Axis, 4) }},
		{api.OK, func(c *api.Core) {
			for _, name := range []string{"b", "c"} {
				c.Axes = append(c.Axes, api.Axis{Name: name, Map: [][2]int{{0, 0}}})
			}
			c.Regions[0].Tents = make([]api.Tent, 3)
		}},
		{api.ErrMany, func(c *api.Core) { c.Regions = make([]api.Region, 9) }},
		{api.OK, func(c *api.Core) { c.Regions = slices.Repeat(c.Regions, 8) }},
		{api.ErrMany, func(c *api.Core) { c.Pairs = make([]api.Pair, 61) }},
		{api.ErrMany, func(c *api.Core) { c.Heads = make([]api.Head, 13) }},
		{api.OK, func(c *api.Core) { c.Heads = make([]api.Head, 12) }},
		{api.ErrMany, func(c *api.Core) { c.Glyphs = 0; c.Axes[0].Name = "" }},
		{api.ErrMany, func(c *api.Core) { c.Glyphs = 101 }},
		{api.OK, func(c *api.Core) { c.Glyphs = 100 }},
		{api.ErrName, func(c *api.Core) { c.Axes[0].Name = ""; c.Regions[0].Tents = nil }},
		{api.ErrAxis, func(c *api.Core) { c.Axes[0].Min = 99 }},
		{api.ErrTwice, func(c *api.Core) { c.Axes = append(c.Axes, c.Axes[0]) }},
		{api.ErrAxis, func(c *api.Core) { c.Axes = append(c.Axes, c.Axes[0]); c.Axes[1].Max = 5 }},
		{api.ErrRegion, func(c *api.Core) { c.Regions[0].Tents = nil; c.Chars[0].Code = -1 }},
		{api.ErrRegion, func(c *api.Core) { c.Axes = nil }},
		{api.ErrChar, func(c *api.Core) { c.Chars[0].Code = 256; c.Chars[0].Glyph = 9 }},
		{api.ErrChar, func(c *api.Core) { c.Chars[0].Code = -1 }},
		{api.ErrSort, func(c *api.Core) { c.Chars = append(c.Chars, c.Chars[0]); c.Chars[1].Glyph = 9 }},
		{api.ErrGlyph, func(c *api.Core) { c.Chars[0].Glyph = 2; c.Chars[0].Width = -1 }},
		{api.ErrGlyph, func(c *api.Core) { c.Chars[0].Glyph = -1 }},
		{api.ErrRange, func(c *api.Core) { c.Chars[0].Width = 129; c.Chars[0].Wide[0].Region = 7 }},
		{api.ErrRange, func(c *api.Core) { c.Chars[0].Width = -1 }},
		{api.ErrRegion, func(c *api.Core) { c.Chars[0].Wide[0] = api.Grow{Region: 1, By: 99} }},
		{api.ErrRegion, func(c *api.Core) { c.Chars[0].Wide[0].Region = -1 }},
		{api.ErrRegion, func(c *api.Core) { c.Chars[0].Wide = []api.Grow{{Region: 0, By: 99}, {Region: 0}} }},
		{api.ErrRange, func(c *api.Core) { c.Chars[0].Wide[0].By = 65 }},
		{api.ErrRange, func(c *api.Core) { c.Chars[0].Wide[0].By = -65 }},
		{api.ErrRange, func(c *api.Core) { c.Chars[0].Width = 129; c.Chars = append(c.Chars, c.Chars[0]) }},
		{api.ErrChar, func(c *api.Core) { c.Pairs[0].Left = 256; c.Heads = []api.Head{{Feature: 10}} }},
		{api.ErrChar, func(c *api.Core) { c.Pairs[0].Right = -1 }},
		{api.ErrSort, func(c *api.Core) { c.Pairs = append(c.Pairs, c.Pairs[0]); c.Pairs[1].By = 99 }},
		{api.ErrSort, func(c *api.Core) { c.Pairs = append(c.Pairs, api.Pair{Left: 64, Right: 99}) }},
		{api.OK, func(c *api.Core) {
			c.Pairs = append(c.Pairs, api.Pair{Left: 65, Right: 66}, api.Pair{Left: 66, Right: 0})
		}},
		{api.ErrRange, func(c *api.Core) { c.Pairs[0].By = 65 }},
		{api.ErrRange, func(c *api.Core) { c.Pairs[0].By = -65 }},
		{api.ErrRule, func(c *api.Core) { c.Heads = []api.Head{{Feature: 10, First: []int{9}}} }},
		{api.ErrRule, func(c *api.Core) { c.Heads = []api.Head{{Feature: -1}} }},
		{api.ErrGlyph, func(c *api.Core) { c.Heads = []api.Head{{Feature: 9, First: []int{2}}}; c.Root = "1" }},
		{api.ErrGlyph, func(c *api.Core) { c.Heads = []api.Head{{Feature: 9, First: []int{-1}}} }},
		{api.ErrGlyph, func(c *api.Core) { c.Heads = []api.Head{{Feature: 9, First: []int{1, 0}}} }},
		{api.ErrRoot, func(c *api.Core) { c.Root = "1234567" }},
		{api.ErrRoot, func(c *api.Core) { c.Root = "123456789" }},
		{api.OK, func(c *api.Core) { c.Root = "12345678" }},
	} {
		c := example()
		x.change(&c)
		if got := CheckCore(c); got != x.want {
			t.Errorf("core %d: %v", k, got)
		}
	}
}

// P20.2
func TestCheck(t *testing.T) {
	for k, x := range []struct {
		want   api.Errno
		change func(f *api.Font)
	}{
		{api.OK, func(f *api.Font) {}},
		{api.ErrVersion, func(f *api.Font) { f.Core.Version = 0; f.Glyphs = nil }},
		{api.ErrMany, func(f *api.Font) { f.Lookups = f.Lookups[:1] }},
		{api.ErrMany, func(f *api.Font) { f.Glyphs = f.Glyphs[:1]; f.Lookups[0].Rules[0].In = nil }},
		{api.ErrRule, func(f *api.Font) { f.Lookups[0].Rules[0].In = nil; f.Glyphs[0].Advance = -1 }},
		{api.ErrGlyph, func(f *api.Font) { f.Lookups[0].Rules[0].In = [][]int{{2}} }},
		{api.ErrCall, func(f *api.Font) { f.Lookups[0].Rules[0].Calls[0].Lookup = 2 }},
		{api.ErrRule, func(f *api.Font) { f.Core.Heads[0].First = []int{0, 1} }},
		{api.ErrRule, func(f *api.Font) { f.Core.Heads[1].First = []int{0} }},
		{api.ErrRange, func(f *api.Font) { f.Glyphs[0].Advance = -1; f.Glyphs[1].Program[0].Op = 99 }},
		{api.ErrDelta, func(f *api.Font) { f.Glyphs[1].Deltas[0].Region = 1 }},
		{api.ErrOp, func(f *api.Font) { f.Glyphs[1].Program[0].Op = 99 }},
		{api.ErrStack, func(f *api.Font) { f.Glyphs[1].Program = []api.Ins{{Op: api.OpPop}} }},
		{api.ErrIndex, func(f *api.Font) { f.Glyphs[1].Program = []api.Ins{{Op: api.OpAxis, N: 1}} }},
		{api.OK, func(f *api.Font) { f.Glyphs[1].Program = []api.Ins{{Op: api.OpAxis, N: 0}, {Op: api.OpSetX, N: 3}} }},
		{api.OK, func(f *api.Font) {
			f.Glyphs[1].Program = []api.Ins{{Op: api.OpGetX, N: 0}, {Op: api.OpPush, N: api.MaxValue - 20480}, {Op: api.OpAdd}}
		}},
		{api.ErrValue, func(f *api.Font) {
			f.Glyphs[1].Program = []api.Ins{{Op: api.OpGetX, N: 0}, {Op: api.OpPush, N: api.MaxValue - 20479}, {Op: api.OpAdd}}
		}},
		{api.OK, func(f *api.Font) {
			f.Glyphs[1].Program = []api.Ins{{Op: api.OpSize}, {Op: api.OpPush, N: -4}, {Op: api.OpAdd}, {Op: api.OpPush, N: 3}, {Op: api.OpMin}, {Op: api.OpAt}}
		}},
		{api.ErrIndex, func(f *api.Font) {
			f.Glyphs[1].Program = []api.Ins{{Op: api.OpSize}, {Op: api.OpPush, N: -5}, {Op: api.OpAdd}, {Op: api.OpPush, N: 3}, {Op: api.OpMin}, {Op: api.OpAt}}
		}},
		{api.ErrIndex, func(f *api.Font) {
			f.Glyphs[1].Program = []api.Ins{{Op: api.OpSize}, {Op: api.OpPush, N: -29}, {Op: api.OpAdd}, {Op: api.OpPush, N: 0}, {Op: api.OpMax}, {Op: api.OpPush, N: 1}, {Op: api.OpAdd}, {Op: api.OpAt}}
		}},
	} {
		f := exampleFont()
		x.change(&f)
		if got := Check(f); got != x.want {
			t.Errorf("font %d: %v", k, got)
		}
	}
}

// P20.3, P20.8
func TestCode(t *testing.T) {
	want := "0873616e730602087769 6465c801c8019003 04c801009003800102020080018001040282 01023c02002802820182010700 00"
	if got := hex.EncodeToString([]byte(Encode(example()))); got != strings.ReplaceAll(want, " ", "") {
		t.Error(got)
	}
	full := exampleFont().Core
	full.Root = "\x00\xff345678"
	for k, c := range []api.Core{{}, example(), full, {Name: "\x00", Version: math.MinInt, Glyphs: math.MaxInt, Regions: make([]api.Region, 3), Heads: []api.Head{{Feature: -1, First: []int{5, 4}}}, Chars: make([]api.Char, 300)}} {
		s := Encode(c)
		got, e := Decode(s)
		if e != api.OK || Encode(got) != s || !Same(api.Font{Core: got}, api.Font{Core: c}) {
			t.Errorf("core %d: %v", k, e)
		}
		for cut := range len(s) {
			if short, e := Decode(s[:cut]); e != api.ErrForm || !reflect.DeepEqual(short, api.Core{}) {
				t.Fatalf("core %d cut at %d: %v", k, cut, e)
			}
		}
		if _, e := Decode(s + "\x00"); e != api.ErrForm {
			t.Errorf("core %d with a byte more: %v", k, e)
		}
	}
	if _, e := Decode("\x00\x00\x01\x00\x00\x00\x00\x00\x00"); e != api.ErrForm {
		t.Error("-1 axes", e)
	}
	if _, e := Decode("\x00\x00\xfe\xff\xff\xff\xff\xff\xff\xff\xff\x01"); e != api.ErrForm {
		t.Error("very many axes", e)
	}
	long := api.Core{Name: strings.Repeat("x", 65525)}
	if s := Encode(long); len(s) != 65536 {
		t.Error("length", len(s))
	} else if _, e := Decode(s); e != api.OK {
		t.Error("65536 bytes", e)
	} else if _, e := Decode(s + "x"); e != api.ErrMany {
		t.Error("65537 bytes", e)
	}
}

// P20.4, P20.5, P20.6
func TestWidths(t *testing.T) {
	c := example()
	if g, ok := Glyph(c, 65); g != 1 || !ok {
		t.Error("Glyph of 65")
	}
	if g, ok := Glyph(c, 66); g != 0 || ok {
		t.Error("Glyph of 66")
	}
	for _, x := range []struct {
		code, size int
		at         []int
		want       int
		ok         bool
	}{{65, 8, []int{0}, 4, true}, {65, 8, []int{32}, 5, true}, {65, 8, []int{64}, 6, true}, {65, 3, []int{0}, 0, false}, {65, 33, []int{0}, 0, false}, {65, 8, nil, 0, false}, {65, 8, []int{65}, 0, false}, {66, 8, []int{0}, 0, false}, {65, 32, []int{64}, 25, true}, {65, 8, []int{0, 0}, 0, false}} {
		if got, ok := Width(c, x.code, api.Setting{Size: x.size, At: x.at}); got != x.want || ok != x.ok {
			t.Errorf("Width of %d at %d, %v: %d %v", x.code, x.size, x.at, got, ok)
		}
	}
	c.Chars[0].Wide[0].By = -64
	if got, ok := Width(c, 65, api.Setting{Size: 8, At: []int{64}}); got != 0 || !ok {
		t.Error("a negative width", got, ok)
	}
	c.Chars = append(c.Chars, api.Char{Code: 65, Glyph: 7, Width: 9}, api.Char{Code: 70, Width: 9})
	if got, ok := Width(c, 70, api.Setting{Size: 8}); got != 1 || !ok {
		t.Error("a width without regions", got, ok)
	}
	if g, _ := Glyph(c, 65); g != 1 {
		t.Error("the first of two characters")
	}
	for _, x := range [][4]int{{65, 65, 8, 0}, {65, 65, 20, -1}, {65, 66, 20, 0}, {66, 65, 20, 0}, {65, 65, 3, 0}, {65, 65, 33, 0}, {65, 65, 32, -2}, {65, 65, 9, -1}} {
		if got := Between(c, x[0], x[1], x[2]); got != x[3] {
			t.Errorf("Between of %v: %d", x, got)
		}
	}
	c.Pairs = []api.Pair{{Left: 1, Right: 2, By: 64}, {Left: 1, Right: 2, By: 32}}
	if Between(c, 1, 2, 8) != 8 {
		t.Error("the first of two pairs")
	}
}

// P20.7
func TestSame(t *testing.T) {
	if !Same(exampleFont(), exampleFont()) || !Same(api.Font{}, api.Font{Lookups: []api.Lookup{}, Glyphs: []api.Glyph{}}) {
		t.Error("equal fonts")
	}
	for k, change := range []func(f *api.Font){
		func(f *api.Font) { f.Core.Version++ }, func(f *api.Font) { f.Core.Root = "1" }, func(f *api.Font) { f.Core.Axes[0].Map[1][1]-- }, func(f *api.Font) { f.Core.Regions[0].Tents[0].Peak-- }, func(f *api.Font) { f.Core.Chars[0].Wide = nil }, func(f *api.Font) { f.Core.Pairs[0].By++ }, func(f *api.Font) { f.Core.Heads[0].First = nil }, func(f *api.Font) { f.Core.Glyphs++ },
		func(f *api.Font) { f.Lookups = f.Lookups[:1] }, func(f *api.Font) { f.Lookups[0].Rules[0].Back = nil }, func(f *api.Font) { f.Lookups[0].Rules[0].In[0][0]++ }, func(f *api.Font) { f.Lookups[0].Rules[0].Ahead[0] = nil }, func(f *api.Font) { f.Lookups[0].Rules[0].Out = []int{0} }, func(f *api.Font) { f.Lookups[0].Rules[0].Calls[0].At++ }, func(f *api.Font) { f.Lookups[1].Rules = make([]api.Rule, 1) },
		func(f *api.Font) { f.Glyphs[1].Program[1].N++ }, func(f *api.Font) { f.Glyphs = f.Glyphs[:1] }, func(f *api.Font) { f.Glyphs[0].Advance++ },
	} {
		f := exampleFont()
		change(&f)
		if Same(f, exampleFont()) || Same(exampleFont(), f) {
			t.Errorf("change %d is not seen", k)
		}
	}
}

// P20.8, P20.9
func TestWidthsEverywhere(t *testing.T) {
	c := example()
	c.Axes = append(c.Axes, api.Axis{Name: "b", Map: [][2]int{{0, 0}}})
	c.Regions = []api.Region{{Tents: []api.Tent{{From: 0, Peak: 20, To: 64}, {From: -64, Peak: -3, To: 0}}}, {Tents: []api.Tent{{}, {From: 1, Peak: 9, To: 9}}}}
	c.Chars[0].Wide = []api.Grow{{Region: 0, By: -64}, {Region: 1, By: 64}}
	if CheckCore(c) != api.OK {
		t.Fatal("the core is not right")
	}
	for size := 4; size <= 32; size++ {
		for at := -64; at <= 64; at += 4 {
			set := api.Setting{Size: size, At: []int{at, at/2 - 3}}
			got, ok := Width(c, 65, set)
			if !ok || got < 0 {
				t.Fatalf("no width at %v", set)
			}
			if axes.Scalar(c.Regions[0], set.At).Num == 0 && axes.Scalar(c.Regions[1], set.At).Num == 0 && got != (30*size*2+64)/128 {
				t.Fatalf("width at %v: %d", set, got)
			}
		}
	}
	a, b := example(), example()
	a.Chars[0].Wide, b.Pairs = nil, nil
	if Encode(a) == Encode(b) || Encode(a) == Encode(example()) {
		t.Error("different cores with one encoding")
	}
}

// P20.10
func TestRightGlyphsAreDrawn(t *testing.T) {
	r := rand.New(rand.NewSource(20))
	right := 0
	for range 4000 {
		f := exampleFont()
		g := &f.Glyphs[1]
		g.Program = nil
		for range 1 + r.Intn(8) {
			i := api.Ins{Op: 1 + r.Intn(22)}
			switch i.Op {
			case api.OpPush:
				i.N = r.Intn(100) * r.Intn(2000)
			case api.OpGetX, api.OpGetY, api.OpSetX, api.OpSetY:
				i.N = r.Intn(outline.Points(*g))
			}
			if r.Intn(2) == 0 {
				g.Program = append(g.Program, api.Ins{Op: api.OpSize}, api.Ins{Op: api.OpGetX, N: 1})
			}
			g.Program = append(g.Program, i)
		}
		for k := range g.Contours[0] {
			g.Contours[0][k].X, g.Contours[0][k].Y = r.Intn(257)-128, r.Intn(257)-128
			g.Deltas[0].Moves[k] = [2]int{r.Intn(129) - 64, r.Intn(129) - 64}
		}
		if Check(f) != api.OK {
			continue
		}
		right++
		for range 8 {
			set := api.Setting{Size: 4 + r.Intn(29), At: []int{r.Intn(129) - 64}}
			if _, e := fit.At(*g, f.Core.Regions, set); e != api.OK {
				t.Fatalf("%v at %v: %v", g.Program, set, e)
			}
		}
	}
	if right < 500 {
		t.Error("too few fonts are right", right)
	}
}
