package check

import (
	"fmt"
	"math/rand"
	"slices"
	"strings"
	"testing"

	"abugida/api"
	"abugida/closure"
	"abugida/digest"
	"abugida/flow"
	"abugida/font"
	"abugida/known"
	"abugida/page"
	"abugida/parts"
	"abugida/picture"
	"abugida/scan"
	"abugida/seal"
	"abugida/source"
	"abugida/wire"
)

func parse(t *testing.T, s string) api.Font {
	t.Helper()
	f, n, e := source.Parse(strings.ReplaceAll(s, ";", "\n"))
	if e != api.OK {
		t.Fatal(n, e, s)
	}
	return parts.Rooted(f)
}

func lookup(n int, l ...api.Rule) api.Part {
	return api.Part{Key: api.Key{Kind: 1, N: n}, Lookup: api.Lookup{Rules: l}}
}

func put(in, out int) api.Rule { return api.Rule{In: [][]int{{in}}, Out: []int{out}} }

func example() (api.Core, api.Request, []api.Part, []api.Step) {
	c := api.Core{Name: "a", Version: 1, Glyphs: 3, Chars: []api.Char{{Code: 65, Glyph: 1}}, Heads: []api.Head{{Feature: 0, First: []int{1}}}}
	q := api.Request{Chars: []int{65}, Sizes: [2]int{8, 9}}
	return c, q, []api.Part{lookup(0, put(1, 2))}, []api.Step{{Glyph: 0, Why: 1, N: -1}, {Glyph: 1, Why: 1, N: 65}, {Glyph: 2, Why: 2}}
}

// P37.1
func TestClosedExamples(t *testing.T) {
	c, q, l, s := example()
	without := q
	without.Chars = nil
	for k, x := range []struct {
		q       api.Request
		lookups []api.Part
		steps   []api.Step
		want    api.Errno
	}{
		{q, l, s, api.OK}, {q, nil, s, api.ErrStep}, {q, l, s[:2], api.ErrNeed}, {q, nil, s[:2], api.ErrNeed}, {q, l, []api.Step{s[0], s[1], s[2], s[2]}, api.ErrStep}, {q, l, []api.Step{s[2], s[0], s[1]}, api.ErrStep}, {without, l, s[:1], api.OK}, {without, nil, s[:1], api.OK},
		{q, l, []api.Step{s[1], s[2], s[0]}, api.OK}, {q, l, s[1:], api.ErrNeed}, {without, nil, nil, api.ErrNeed}, {without, l, s[:2], api.ErrStep}, {q, l, []api.Step{s[0], s[2]}, api.ErrStep}, {q, nil, s[:1], api.ErrNeed},
	} {
		if got := Closed(c, x.q, x.lookups, x.steps); got != x.want {
			t.Errorf("call %d: %v", k, got)
		}
	}
}

// P37.1
func TestClosedSizes(t *testing.T) {
	c, q, l, s := example()
	q.Chars = []int{0, 65, 255}
	for _, sizes := range [][2]int{{4, 4}, {32, 32}, {4, 32}} {
		q.Sizes = sizes
		if got := Closed(c, q, l, s); got != api.OK {
			t.Errorf("sizes %v: %v", sizes, got)
		}
	}
}

// P37.1
func TestClosedErrors(t *testing.T) {
	for k, x := range []struct {
		want   api.Errno
		change func(c *api.Core, q *api.Request, l []api.Part, s []api.Step) ([]api.Part, []api.Step)
	}{
		{api.ErrVersion, func(c *api.Core, q *api.Request, l []api.Part, s []api.Step) ([]api.Part, []api.Step) {
			c.Version, q.Chars = 0, []int{2, 1}
			return l, s
		}},
		{api.ErrArg, func(c *api.Core, q *api.Request, l []api.Part, s []api.Step) ([]api.Part, []api.Step) {
			q.Chars, l[0].Key.Kind = []int{66, 65}, 2
			return l, s
		}},
		{api.ErrArg, func(c *api.Core, q *api.Request, l []api.Part, s []api.Step) ([]api.Part, []api.Step) {
			q.Chars = []int{65, 256}
			return l, s
		}},
		{api.ErrArg, func(c *api.Core, q *api.Request, l []api.Part, s []api.Step) ([]api.Part, []api.Step) {
			q.Sizes[0] = 3
			return l, s
		}},
		{api.ErrArg, func(c *api.Core, q *api.Request, l []api.Part, s []api.Step) ([]api.Part, []api.Step) {
			q.Sizes[1] = 33
			return l, s
		}},
		{api.ErrArg, func(c *api.Core, q *api.Request, l []api.Part, s []api.Step) ([]api.Part, []api.Step) {
			q.Sizes[0] = 10
			return l, s
		}},
		{api.ErrArg, func(c *api.Core, q *api.Request, l []api.Part, s []api.Step) ([]api.Part, []api.Step) {
			q.Axes = [][2]int{{0, 0}}
			return l, s
		}},
		{api.ErrKey, func(c *api.Core, q *api.Request, l []api.Part, s []api.Step) ([]api.Part, []api.Step) {
			l[0].Key.Kind, l[0].Lookup.Rules = 2, make([]api.Rule, 9)
			return l, s[:1]
		}},
		{api.ErrKey, func(c *api.Core, q *api.Request, l []api.Part, s []api.Step) ([]api.Part, []api.Step) {
			l[0].Key.N = 1
			return l, s
		}},
		{api.ErrKey, func(c *api.Core, q *api.Request, l []api.Part, s []api.Step) ([]api.Part, []api.Step) {
			l[0].Key.N = -1
			return l, s
		}},
		{api.ErrKey, func(c *api.Core, q *api.Request, l []api.Part, s []api.Step) ([]api.Part, []api.Step) {
			l[0].Key.Region = 1
			return l, s
		}},
		{api.ErrTwice, func(c *api.Core, q *api.Request, l []api.Part, s []api.Step) ([]api.Part, []api.Step) {
			return append(l, lookup(0)), s
		}},
		{api.ErrRule, func(c *api.Core, q *api.Request, l []api.Part, s []api.Step) ([]api.Part, []api.Step) {
			return []api.Part{lookup(0, put(2, 1))}, s
		}},
		{api.ErrGlyph, func(c *api.Core, q *api.Request, l []api.Part, s []api.Step) ([]api.Part, []api.Step) {
			return []api.Part{lookup(0, put(1, 3))}, s[1:]
		}},
		{api.ErrMany, func(c *api.Core, q *api.Request, l []api.Part, s []api.Step) ([]api.Part, []api.Step) {
			return []api.Part{lookup(0, make([]api.Rule, 9)...)}, s
		}},
		{api.ErrCall, func(c *api.Core, q *api.Request, l []api.Part, s []api.Step) ([]api.Part, []api.Step) {
			return []api.Part{lookup(0, api.Rule{In: [][]int{{1}}, Calls: []api.Call{{}}})}, s
		}},
	} {
		c, q, l, s := example()
		l, s = x.change(&c, &q, l, s)
		if got := Closed(c, q, l, s); got != x.want {
			t.Errorf("call %d: %v", k, got)
		}
	}
}

// P37.1: steps that are no reasons.
func TestReasons(t *testing.T) {
	c := api.Core{Name: "a", Version: 1, Glyphs: 9, Chars: []api.Char{{Code: 65, Glyph: 1}, {Code: 66, Glyph: 2}}, Heads: []api.Head{{Feature: 0, First: []int{1, 2}}, {Feature: 9, First: []int{3}}, {Feature: 6, First: []int{2}}, {Feature: 7, First: []int{8}}}}
	l := []api.Part{
		lookup(2, put(2, 7)), lookup(1, put(3, 5)), lookup(3, put(8, 6)),
		lookup(0, api.Rule{Back: [][]int{{2}}, In: [][]int{{1}}, Ahead: [][]int{{0}}, Out: []int{3, 4}}, api.Rule{In: [][]int{{2}}, Calls: []api.Call{{At: 0, Lookup: 1}, {At: 0, Lookup: 3}}}),
	}
	q := api.Request{Chars: []int{64, 65, 66}, Features: 128, Sizes: [2]int{8, 9}}
	good := []api.Step{{Glyph: 2, Why: 1, N: 66}, {Glyph: 0, Why: 1, N: -1}, {Glyph: 1, Why: 1, N: 65}, {Glyph: 4, Why: 2, Out: 1}, {Glyph: 3, Why: 2}, {Glyph: 5, Why: 2, N: 1}}
	if got := Closed(c, q, l, good); got != api.OK {
		t.Fatal(got)
	}
	for k, change := range []func(s []api.Step){
		func(s []api.Step) { s[0].Glyph = 1 }, func(s []api.Step) { s[0].Why = 0 }, func(s []api.Step) { s[0].Why = 3 }, func(s []api.Step) { s[0].N = 65 }, func(s []api.Step) { s[0].N = 64 }, func(s []api.Step) { s[0].N = -1 }, func(s []api.Step) { s[0].Rule = 1 }, func(s []api.Step) { s[0].Out = 1 },
		func(s []api.Step) { s[1].Glyph = 8 }, func(s []api.Step) { s[1].N = 0 }, func(s []api.Step) { s[1].Rule = -1 }, func(s []api.Step) { s[3].Out = 0 }, func(s []api.Step) { s[3].Out = 2 }, func(s []api.Step) { s[3].Out = -1 }, func(s []api.Step) { s[3].Rule = 1 }, func(s []api.Step) { s[3].Rule = 2 }, func(s []api.Step) { s[3].Rule = -1 }, func(s []api.Step) { s[3].N = 4 }, func(s []api.Step) { s[3].N = -1 },
		func(s []api.Step) { s[0], s[3] = s[3], s[0] }, func(s []api.Step) { s[1], s[3] = s[3], s[1] }, func(s []api.Step) { s[2], s[3] = s[3], s[2] }, func(s []api.Step) { s[4], s[5] = s[5], s[4] }, func(s []api.Step) { s[5] = api.Step{Glyph: 7, Why: 2, N: 2} }, func(s []api.Step) { s[5] = api.Step{Glyph: 6, Why: 2, N: 3} }, func(s []api.Step) { s[5] = s[4] },
	} {
		s := slices.Clone(good)
		change(s)
		if got := Closed(c, q, l, s); got != api.ErrStep {
			t.Errorf("change %d: %v", k, got)
		}
	}
	for k := range good {
		s := slices.Delete(slices.Clone(good), k, k+1)
		if got := Closed(c, q, l, s); got != api.ErrNeed && got != api.ErrStep {
			t.Errorf("without the step %d: %v", k, got)
		}
	}
	for _, n := range []int{0, 2} { // the lookups 2 and 3 are not needed
		s := slices.Delete(slices.Clone(l), n, n+1)
		if got := Closed(c, q, s, good); got != api.OK {
			t.Errorf("without the lookup %d: %v", l[n].Key.N, got)
		}
	}
	if got := Closed(c, q, append(slices.Clone(l[:1]), l[2:]...), good[:5]); got != api.ErrNeed {
		t.Error("without a lookup that is called", got)
	}
	q.Features = 64
	if got := Closed(c, q, l, good); got != api.ErrNeed {
		t.Error("with a feature more", got)
	}
	q.Features, q.Chars = 128, []int{65, 66}
	if got := Closed(c, q, l, good); got != api.OK {
		t.Error("without a character that the core has not", got)
	}
}

func document(width int, fonts []api.Font, paras ...api.Para) api.Doc {
	d := api.Doc{Width: width, Paras: paras}
	for _, f := range fonts {
		d.Fonts = append(d.Fonts, api.Pin{Name: f.Core.Name, Version: f.Core.Version, Root: f.Core.Root})
	}
	return d
}

func sealed(t *testing.T) api.Seal {
	f := parse(t, "font a 1;axis w -9 0 9 -9=-64 0=0 9=64;region 0/64/64;region -64/-10/0;lookup 0;rule | {1} | > 2;char 65 1 30;glyph 1;glyph 30;contour 0,0 10,0~ 5,20;delta 0 0 1,1 2,2 3,3 0,0;delta 1 0 1,1 2,2 3,3 0,0;glyph 7;glyph 7;")
	s, e := seal.Make(document(40, []api.Font{f}, api.Para{Text: "A!", Set: api.Setting{Size: 8, At: []int{3}}}), []api.Font{f}, [2]int{7, 9}, [][][2]int{{{0, 9}}})
	if e != api.OK || len(s.Parts) != 5 {
		t.Fatal(e, len(s.Parts))
	}
	return s
}

// P37.2
func TestCheckErrors(t *testing.T) {
	for k, x := range []struct {
		want   api.Errno
		change func(s *api.Seal)
	}{
		{api.OK, func(s *api.Seal) {}},
		{api.ErrSeal, func(s *api.Seal) { s.Steps = nil }},
		{api.ErrSeal, func(s *api.Seal) { s.Axes = nil; s.Doc.Width = 0 }},
		{api.ErrSeal, func(s *api.Seal) { s.Cores = nil }},
		{api.ErrRange, func(s *api.Seal) { s.Doc.Width = 0; s.Axes[0] = nil }},
		{api.ErrMissing, func(s *api.Seal) { s.Cores, s.Axes, s.Steps = nil, nil, nil }},
		{api.ErrVersion, func(s *api.Seal) { s.Cores[0].Version = 2; s.Sizes[0] = 3 }},
		{api.ErrRange, func(s *api.Seal) { s.Sizes[0] = 3; s.Axes[0] = nil }},
		{api.ErrRange, func(s *api.Seal) { s.Sizes[1] = 33 }},
		{api.ErrRange, func(s *api.Seal) { s.Sizes = [2]int{9, 8} }},
		{api.ErrRange, func(s *api.Seal) { s.Sizes = [2]int{9, 10} }},
		{api.OK, func(s *api.Seal) { s.Sizes = [2]int{8, 8} }},
		{api.ErrRange, func(s *api.Seal) { s.Sizes = [2]int{4, 7}; s.Parts[0].Font = 1 }},
		{api.ErrAxis, func(s *api.Seal) { s.Axes[0] = nil; s.Sizes = [2]int{9, 10} }},
		{api.ErrAxis, func(s *api.Seal) { s.Axes[0] = [][2]int{{4, 9}} }},
		{api.ErrAxis, func(s *api.Seal) { s.Axes[0] = [][2]int{{0, 65}} }},
		{api.OK, func(s *api.Seal) { s.Axes[0] = [][2]int{{3, 3}} }},
		{api.ErrNeed, func(s *api.Seal) { s.Axes[0] = [][2]int{{-1, 9}} }},
		{api.ErrSeal, func(s *api.Seal) { s.Parts[0].Font = -1; s.Steps[0] = nil }},
		{api.ErrSeal, func(s *api.Seal) { s.Parts[4].Font = 1 }},
		{api.ErrSeal, func(s *api.Seal) { s.Parts[1], s.Parts[2] = s.Parts[2], s.Parts[1] }},
		{api.ErrSeal, func(s *api.Seal) { s.Parts[1] = s.Parts[0]; s.Parts[2].Body = "" }},
		{api.ErrProof, func(s *api.Seal) { s.Parts[1].Body = "" }},
		{api.ErrProof, func(s *api.Seal) { s.Parts[1].Index++ }},
		{api.ErrProof, func(s *api.Seal) { s.Parts[1].Key.N = 1; s.Parts = s.Parts[:2] }},
		{api.ErrProof, func(s *api.Seal) { s.Parts[0].Proof = nil; s.Parts[1].Font = 9 }},
		{api.ErrStep, func(s *api.Seal) { s.Steps[0] = append(s.Steps[0], api.Step{}) }},
		{api.ErrStep, func(s *api.Seal) { s.Parts = s.Parts[1:] }},
		{api.ErrNeed, func(s *api.Seal) { s.Steps[0] = s.Steps[0][:2] }},
		{api.ErrNeed, func(s *api.Seal) { s.Parts = slices.Delete(s.Parts, 3, 4) }},
		{api.ErrNeed, func(s *api.Seal) { s.Parts = s.Parts[:4] }},
		{api.ErrNeed, func(s *api.Seal) { s.Doc.Paras[0].Text = "B"; s.Steps[0] = s.Steps[0][:1]; s.Parts = nil }},
		{api.OK, func(s *api.Seal) { s.Doc.Paras[0].Text = "B"; s.Steps[0] = s.Steps[0][:1]; s.Parts = s.Parts[1:2] }},
		{api.OK, func(s *api.Seal) { s.Doc.Paras[0].Text = "B"; s.Steps[0] = s.Steps[0][:1] }},
	} {
		s := sealed(t)
		x.change(&s)
		if got := Check(s); got != x.want {
			t.Errorf("document %d: %v", k, got)
		}
	}
}

// P37.2: a delta that is proved, and whose moves are not as many as the glyph has points.
func TestDeltasThatDoNotFit(t *testing.T) {
	c := api.Core{Name: "a", Version: 1, Glyphs: 1, Axes: []api.Axis{{Name: "w", Max: 9, Map: [][2]int{{0, 0}, {9, 64}}}}, Regions: []api.Region{{Tents: []api.Tent{{To: 64, Peak: 64}}}, {Tents: []api.Tent{{To: 64, Peak: 9}}}}}
	glyph := wire.Int(0) + wire.Ints(nil) + wire.Int(0) + wire.Int(0) + wire.Int(0) + wire.Int(5) + wire.Ints(nil) + wire.Ints([]int{0, 1})
	right, wrong := wire.Int(0)+wire.Ints([]int{0, 0}), wire.Int(0)+wire.Ints(nil)
	for k, x := range []struct {
		bodies []string
		ranges [2]int
		want   api.Errno
	}{{[]string{glyph, right, right}, [2]int{0, 9}, api.OK}, {[]string{glyph, right, wrong}, [2]int{0, 9}, api.ErrDelta}, {[]string{glyph, wrong, right}, [2]int{0, 9}, api.ErrDelta}, {[]string{glyph, wrong, right}, [2]int{0, 0}, api.OK}, {[]string{glyph, wrong}, [2]int{0, 9}, api.ErrDelta}, {[]string{glyph, right}, [2]int{0, 9}, api.ErrNeed}} {
		keys := []api.Key{{Kind: 2}, {Kind: 3}, {Kind: 3, Region: 1}}
		var leaves []string
		for i, body := range x.bodies {
			leaves = append(leaves, parts.Leaf(keys[i], body))
		}
		c.Root = digest.Root(leaves)
		s := api.Seal{Doc: document(40, []api.Font{{Core: c}}), Sizes: [2]int{4, 5}, Axes: [][][2]int{{x.ranges}}, Cores: []api.Core{c}, Steps: [][]api.Step{{{Why: 1, N: -1}}}}
		for i, body := range x.bodies {
			s.Parts = append(s.Parts, api.Carried{Key: keys[i], Body: body, Index: i, Proof: digest.Proof(leaves, i)})
		}
		if got := Check(s); got != x.want {
			t.Errorf("document %d: %v", k, got)
		}
	}
}

// randomFont returns a right font with 3 lookups, 7 glyphs, one axis and programs.
func randomFont(t *testing.T, r *rand.Rand, name string, codes []int) api.Font {
	set := func() string {
		a := r.Intn(4)
		return fmt.Sprintf("{%d,%d}", a, a+1+r.Intn(3))
	}
	s := "font " + name + " 1;axis w -9 0 9 -9=-64 0=0 9=64;region 0/64/64;region -64/-10/0;"
	for k := range 3 {
		s += fmt.Sprintf("lookup %d;", max(0, r.Intn(14)-4))
		for range r.Intn(3) {
			s += "rule | " + set() + " |"
			if r.Intn(3) == 0 {
				s += " " + set()
			}
			if r.Intn(3) == 0 && k < 2 {
				s += fmt.Sprintf(" call 0:%d;", k+1)
			} else {
				s += " >" + []string{"", fmt.Sprintf(" %d", r.Intn(7)), fmt.Sprintf(" %d %d", r.Intn(7), r.Intn(7))}[r.Intn(3)] + ";"
			}
		}
	}
	for k, code := range codes {
		s += fmt.Sprintf("char %d %d 30;", code, (k*(1+r.Intn(3)))%7)
	}
	point := func() string { return fmt.Sprintf(" %d,%d", r.Intn(120)-30, r.Intn(120)-30) }
	move := func() string { return fmt.Sprintf(" %d,%d", r.Intn(40)-20, r.Intn(40)-20) }
	for range 7 {
		s += fmt.Sprintf("glyph %d;contour%s%s%s%s;", r.Intn(90), point(), point(), point(), point())
		for k := range 2 {
			if r.Intn(2) == 0 {
				s += fmt.Sprintf("delta %d 9%s%s%s%s 0,0;", k, move(), move(), move(), move())
			}
		}
	}
	return parse(t, s)
}

func randomSeal(t *testing.T, r *rand.Rand) (api.Seal, []api.Font) {
	some := []byte{64, 65, 66, 104, 105, 240, 32, 97, 10}
	fonts := []api.Font{randomFont(t, r, "a", []int{32, 64, 65, 97, 104}), randomFont(t, r, "b", []int{64, 66, 104, 105})}
	var paras []api.Para
	for range 1 + r.Intn(2) {
		s := make([]byte, r.Intn(9))
		for i := range s {
			s[i] = some[r.Intn(len(some))]
		}
		paras = append(paras, api.Para{Text: string(s), Set: api.Setting{Size: 6 + r.Intn(3), At: []int{r.Intn(5)}, Features: r.Intn(1024)}})
	}
	ranges := [][][2]int{{{-r.Intn(2) * 30, 4 + r.Intn(20)}}, {{0, 4}}}
	s, e := seal.Make(document(40, fonts, paras...), fonts, [2]int{5, 8}, ranges)
	if e != api.OK {
		t.Fatal(e)
	}
	return s, fonts
}

// showsAll fails, if the parts that are carried do not show what the fonts show.
func showsAll(t *testing.T, r *rand.Rand, s api.Seal, fonts []api.Font) {
	t.Helper()
	var all []*known.Known
	for _, c := range s.Cores {
		k, _ := known.New(c)
		all = append(all, k)
	}
	for _, p := range s.Parts {
		if e := all[p.Font].Take(api.Patch{Font: s.Cores[p.Font].Name, Version: 1, Key: p.Key, Body: p.Body, Index: p.Index, Proof: p.Proof}); e != api.OK {
			t.Fatal(e)
		}
	}
	for _, p := range s.Doc.Paras {
		for _, piece := range page.Pieces(s.Cores, p.Text) {
			k := piece.Level
			if k < 0 {
				continue
			}
			low, high := s.Axes[k][0][0], s.Axes[k][0][1]
			for _, at := range []int{low, high, low + r.Intn(high-low+1)} {
				set := flow.Setting(s.Cores[k], api.Setting{Size: s.Sizes[0] + r.Intn(s.Sizes[1]-s.Sizes[0]+1), At: []int{at}, Features: p.Set.Features})
				text := p.Text[piece.From:piece.To]
				whole, e := picture.Whole(fonts[k], text, set)
				if e != api.OK {
					continue
				}
				for c, shown := range picture.Run(all[k], text, set) {
					if !shown.Known || !scan.Same(shown.Map, whole[c]) {
						t.Fatalf("the cluster %d of %q at %v", c, text, set)
					}
				}
			}
		}
	}
}

// P37.3, P37.4
func TestWhatIsSealedIsAccepted(t *testing.T) {
	r := rand.New(rand.NewSource(37))
	for range 60 {
		s, fonts := randomSeal(t, r)
		if e := Check(s); e != api.OK {
			t.Fatal(e)
		}
		for k, f := range fonts {
			q := seal.Request(s, k)
			var l []api.Part
			for _, key := range closure.Need(f, q) {
				if key.Kind == api.KindLookup {
					l = append(l, api.Part{Key: key, Lookup: f.Lookups[key.N]})
				}
			}
			steps := closure.Steps(f, q)
			if e := Closed(f.Core, q, l, steps); e != api.OK {
				t.Fatal(e)
			}
			for i := range steps {
				if e := Closed(f.Core, q, l, slices.Delete(slices.Clone(steps), i, i+1)); e == api.OK {
					t.Fatalf("without the step %d", i)
				}
				less := s
				less.Steps = slices.Clone(s.Steps)
				less.Steps[k] = slices.Delete(slices.Clone(steps), i, i+1)
				if e := Check(less); e == api.OK {
					t.Fatalf("without the step %d", i)
				}
			}
		}
		for i, p := range s.Parts {
			less := s
			less.Parts = slices.Delete(slices.Clone(s.Parts), i, i+1)
			if e := Check(less); e == api.OK {
				t.Fatalf("without the part %d", i)
			}
			if len(p.Body) == 0 {
				continue
			}
			bent := s
			bent.Parts = slices.Clone(s.Parts)
			b := []byte(p.Body)
			b[r.Intn(len(b))]++
			bent.Parts[i].Body = string(b)
			if e := Check(bent); e == api.OK {
				t.Fatalf("with another byte in the part %d", i)
			}
		}
	}
}

// carried returns an element for a part of a font.
func carried(f api.Font, n int, key api.Key) api.Carried {
	body, _ := parts.Body(f, key)
	index, proof, _ := parts.Proof(f, key)
	return api.Carried{Font: n, Key: key, Body: body, Index: index, Proof: proof}
}

// P37.5
func TestWhatIsAcceptedShowsEverything(t *testing.T) {
	r := rand.New(rand.NewSource(38))
	accepted, refused := 0, 0
	for range 600 {
		s, fonts := randomSeal(t, r)
		for range 1 + r.Intn(2) {
			k := r.Intn(2)
			switch r.Intn(7) {
			case 0:
				s.Axes[k] = [][2]int{{s.Axes[k][0][0] - r.Intn(12), s.Axes[k][0][1] + r.Intn(12)}}
			case 1:
				s.Axes[k] = [][2]int{{max(s.Axes[k][0][0], 0), min(s.Axes[k][0][1], 5)}}
			case 2:
				s.Doc.Paras[0].Set.Features = r.Intn(1024)
			case 3:
				s.Doc.Paras[0].Text = s.Doc.Paras[0].Text[:len(s.Doc.Paras[0].Text)/2]
			case 4:
				s.Doc.Paras[0].Text += string([]byte{64, 104, 65})
			case 5:
				for _, key := range parts.Keys(fonts[k]) {
					s.Parts = append(s.Parts, carried(fonts[k], k, key))
				}
				slices.SortFunc(s.Parts, func(a, b api.Carried) int {
					if follows(a, b) {
						return -1
					} else if follows(b, a) {
						return 1
					}
					return 0
				})
				s.Parts = slices.CompactFunc(s.Parts, func(a, b api.Carried) bool { return a.Font == b.Font && a.Key == b.Key })
			case 6:
				if q := seal.Request(s, k); font.Check(fonts[k]) == api.OK {
					q.Features |= r.Intn(1024)
					s.Steps[k] = closure.Steps(fonts[k], q)
				}
			}
		}
		if Check(s) != api.OK {
			refused++
			continue
		}
		accepted++
		showsAll(t, r, s, fonts)
	}
	if accepted < 100 || refused < 100 {
		t.Error("too few", accepted, refused)
	}
}
