package known

import (
	"math/rand"
	"reflect"
	"slices"
	"strings"
	"testing"

	"abugida/api"
	"abugida/axes"
	"abugida/digest"
	"abugida/fit"
	"abugida/font"
	"abugida/parts"
	"abugida/patch"
	"abugida/source"
	"abugida/wire"
)

func parse(t *testing.T, s string) api.Font {
	t.Helper()
	f, n, e := source.Parse(strings.ReplaceAll(s, ";", "\n"))
	if e != api.OK {
		t.Fatal(n, e)
	}
	return parts.Rooted(f)
}

func example(t *testing.T) api.Font {
	return parse(t, "font a 1;axis w 0 0 64 0=0 64=64;region 0/64/64;lookup 0;rule | {1} | > 0;glyph 7;glyph 12;contour 0,0 10,0 10,20;anchor 1 5,20;delta 0 4 0,0 8,0 0,0 2,0 0,0;")
}

func key(kind, n, region int) api.Key { return api.Key{Kind: kind, N: n, Region: region} }

func plain(t *testing.T, f api.Font, k api.Key) api.Patch {
	t.Helper()
	p, e := patch.Make(f, k, api.Key{})
	if e != api.OK {
		t.Fatal(k, e)
	}
	return p
}

func open(t *testing.T, c api.Core) *Known {
	t.Helper()
	k, e := New(c)
	if e != api.OK {
		t.Fatal(e)
	}
	return k
}

// forged returns a core whose root proves the body alone, and the patch that brings it.
func forged(c api.Core, k api.Key, body string) (api.Core, api.Patch) {
	c.Root = digest.Root([]string{parts.Leaf(k, body)})
	return c, api.Patch{Font: c.Name, Version: c.Version, Key: k, Body: body}
}

// P26.1
func TestNew(t *testing.T) {
	f := example(t)
	k := open(t, f.Core)
	if !reflect.DeepEqual(k.Core(), clone(f.Core)) || k.Keys() != nil || font.Encode(k.Core()) != font.Encode(f.Core) {
		t.Error("the core")
	}
	c := k.Core()
	c.Heads[0].First[0] = 9
	f.Core.Axes[0].Map[0][0] = 9
	if font.Encode(k.Core()) != font.Encode(example(t).Core) {
		t.Error("the core is shared")
	}
	f = example(t)
	f.Core.Root = ""
	if k, e := New(f.Core); e != api.ErrRoot || k != nil {
		t.Error("no root", e)
	}
	f.Core.Version = 0
	if k, e := New(f.Core); e != api.ErrVersion || k != nil {
		t.Error("a wrong core", e)
	}
}

// P26.2, P26.3, P26.4, P26.5, P26.6
func TestExample(t *testing.T) {
	f := example(t)
	k := open(t, f.Core)
	if e := k.Take(plain(t, f, key(2, 1, 0))); e != api.OK {
		t.Error(e)
	}
	if _, ok := k.Lookup(0); ok {
		t.Error("a lookup that is not there")
	}
	if e := k.Take(plain(t, f, key(1, 0, 0))); e != api.OK {
		t.Error(e)
	}
	if got := k.Keys(); !slices.Equal(got, []api.Key{key(1, 0, 0), key(2, 1, 0)}) {
		t.Error(got)
	}
	if g, ok := k.Glyph(1, []int{0}); !ok || len(g.Deltas) != 0 || len(g.Contours) != 1 {
		t.Error("at 0", g, ok)
	}
	for _, x := range []struct {
		n  int
		at []int
	}{{1, []int{32}}, {0, []int{0}}, {2, []int{0}}, {-1, []int{0}}, {1, nil}, {1, []int{0, 0}}, {1, []int{65}}} {
		if g, ok := k.Glyph(x.n, x.at); ok || !reflect.DeepEqual(g, api.Glyph{}) {
			t.Errorf("glyph %d at %v", x.n, x.at)
		}
	}
	delta := plain(t, f, key(3, 1, 0))
	if e := k.Take(delta); e != api.OK {
		t.Error(e)
	}
	if g, ok := k.Glyph(1, []int{32}); !ok || len(g.Deltas) != 1 || g.Deltas[0].Region != 0 || g.Deltas[0].Moves[1] != [2]int{8, 0} {
		t.Error("at 32", g, ok)
	}
	if g, ok := k.Glyph(1, []int{0}); !ok || len(g.Deltas) != 0 {
		t.Error("at 0, with the delta", g, ok)
	}
	bent := delta
	bent.Body += "\x00"
	from, _ := patch.Make(f, key(2, 1, 0), key(2, 0, 0))
	if k.Take(bent) != api.ErrProof || k.Take(from) != api.ErrBase || k.Take(delta) != api.OK {
		t.Error("other patches")
	}
	if l, ok := k.Lookup(0); !ok || !slices.Equal(l.Rules[0].In[0], []int{1}) {
		t.Error("the lookup", l)
	} else if l.Rules[0].In[0][0] = 7; true {
		if l, _ := k.Lookup(0); l.Rules[0].In[0][0] != 1 {
			t.Error("the lookup is shared")
		}
	}
	if body, ok := k.Body(key(3, 1, 0)); !ok || body != delta.Body {
		t.Error("Body")
	}
	if body, ok := k.Body(key(3, 1, 1)); ok || body != "" {
		t.Error("no Body")
	}
	if k.Drop(key(2, 1, 0)) != api.OK || k.Drop(key(2, 1, 0)) != api.ErrNone {
		t.Error("Drop")
	}
	if _, ok := k.Glyph(1, []int{0}); ok {
		t.Error("a glyph that was given up")
	}
	if e := k.Take(plain(t, f, key(2, 0, 0))); e != api.OK {
		t.Error(e)
	}
	if e := k.Take(from); e != api.OK {
		t.Error("a difference from a part that is there", e)
	}
	if _, ok := k.Glyph(1, []int{0}); !ok {
		t.Error("a glyph that was taken again")
	}
}

// P26.2: what a part has to fit. The cores prove the bodies, so that nothing else refuses them.
func TestParts(t *testing.T) {
	c := example(t).Core
	ints := func(l ...int) string { return wire.Ints(l) }
	num := wire.Int
	triangle := num(1) + ints(0, 0, 1, 9, 0, 1, 9, 9, 1)
	glyph := func(contours, anchors, hang string, advance int, program, regions string) string {
		return contours + anchors + hang + num(advance) + program + regions
	}
	none, noHang := ints(), num(0)+num(0)+num(0)
	rule := func(in, out string) string { return num(1) + num(0) + num(1) + in + num(0) + out + none }
	points := func(n int) string {
		l := make([]int, 3*n)
		return num(1) + ints(l...)
	}
	for i, x := range []struct {
		k    api.Key
		body string
		want api.Errno
	}{
		{key(1, 0, 0), rule(ints(1), ints(0)), api.OK}, {key(1, 1, 0), num(0), api.ErrKey}, {key(1, 0, 0), rule(none, none), api.ErrRule}, {key(1, 0, 0), rule(ints(2), none), api.ErrGlyph}, {key(1, 0, 0), rule(ints(0), none), api.ErrRule}, {key(1, 0, 0), num(0), api.ErrRule}, {key(1, 0, 0), rule(ints(1), ints(2)), api.ErrGlyph},
		{key(1, 0, 0), num(1) + num(0) + num(1) + ints(1) + num(0) + none + ints(0, 0), api.ErrCall}, {key(1, 12, 0), num(0), api.ErrKey}, {key(1, 0, 0), num(2), api.ErrForm}, {key(9, 0, 0), "", api.ErrKey}, {key(2, 100, 0), "", api.ErrKey}, {key(2, 0, 1), "", api.ErrKey},
		{key(2, 1, 0), glyph(triangle, none, noHang, 5, none, none), api.OK}, {key(2, 2, 0), glyph(triangle, none, noHang, 5, none, none), api.ErrKey}, {key(2, 1, 0), glyph(triangle, none, noHang, -1, none, none), api.ErrRange}, {key(2, 1, 0), glyph(points(2), none, noHang, 1, none, none), api.ErrPoint}, {key(2, 1, 0), glyph(points(40), none, noHang, 1, none, none), api.ErrMany}, {key(2, 1, 0), glyph(triangle, ints(0, 1, 1), noHang, 5, none, none), api.ErrAnchor},
		{key(2, 1, 0), glyph(triangle, none, noHang, 5, none, ints(0)), api.OK}, {key(2, 1, 0), glyph(triangle, none, noHang, 5, none, ints(1)), api.ErrDelta}, {key(2, 1, 0), glyph(triangle, none, noHang, 5, none, ints(0, 0)), api.ErrDelta}, {key(2, 1, 0), glyph(triangle, none, noHang, 5, none, ints(-1)), api.ErrDelta}, {key(2, 1, 0), glyph(triangle, none, noHang, 5, ints(99, 0), ints(1)), api.ErrDelta},
		{key(2, 1, 0), glyph(triangle, none, noHang, 5, ints(api.OpPop, 0), none), api.ErrStack}, {key(2, 1, 0), glyph(triangle, none, noHang, 5, ints(api.OpPush, 64, api.OpSetX, 1), none), api.OK}, {key(2, 1, 0), glyph(triangle, none, noHang, 5, ints(api.OpAxis, 0, api.OpAt, 0), none), api.ErrIndex}, {key(2, 1, 0), glyph(triangle, none, noHang, 5, ints(api.OpAxis, 1), none), api.ErrIndex}, {key(2, 1, 0), glyph(triangle, none, noHang, 5, ints(api.OpGetX, 0, api.OpPush, api.MaxValue-20480, api.OpAdd, 0), none), api.OK}, {key(2, 1, 0), glyph(triangle, none, noHang, 5, ints(api.OpGetX, 0, api.OpPush, api.MaxValue-20479, api.OpAdd, 0), none), api.ErrValue},
		{key(3, 1, 0), num(64) + ints(-64, 64), api.OK}, {key(3, 2, 0), num(0) + none, api.ErrKey}, {key(3, 1, 1), num(0) + none, api.ErrKey}, {key(3, 1, 0), num(65) + none, api.ErrDelta}, {key(3, 1, 0), num(0) + ints(0, 65), api.ErrDelta}, {key(3, 1, 0), num(0) + ints(-65, 0), api.ErrDelta}, {key(3, 1, 0), num(0) + ints(0), api.ErrForm},
	} {
		core, p := forged(c, x.k, x.body)
		k := open(t, core)
		if got := k.Take(p); got != x.want {
			t.Errorf("part %d: %v", i, got)
		}
		if (k.Keys() != nil) != (x.want == api.OK) {
			t.Errorf("part %d: %v", i, k.Keys())
		}
	}
	// Two bodies of one part, both proved: the second one is refused.
	a, b := num(1)+none, num(2)+none
	k := key(3, 1, 0)
	core := c
	leaves := []string{parts.Leaf(k, a), parts.Leaf(k, b)}
	core.Root = digest.Root(leaves)
	what := open(t, core)
	for i, body := range []string{a, b, a} {
		p := api.Patch{Font: c.Name, Version: c.Version, Key: k, Body: body, Index: i % 2, Proof: digest.Proof(leaves, i%2)}
		if got := what.Take(p); got != []api.Errno{api.OK, api.ErrTwice, api.OK}[i] {
			t.Errorf("body %d: %v", i, got)
		}
	}
	// A delta with another number of moves: the glyph is not there where it plays a part.
	body := glyph(triangle, none, noHang, 5, none, ints(0))
	leaves = []string{parts.Leaf(key(2, 1, 0), body), parts.Leaf(k, a)}
	core.Root = digest.Root(leaves)
	what = open(t, core)
	for i, p := range []api.Patch{{Key: key(2, 1, 0), Body: body}, {Key: k, Body: a}} {
		p.Font, p.Version, p.Index, p.Proof = c.Name, c.Version, i, digest.Proof(leaves, i)
		if e := what.Take(p); e != api.OK {
			t.Error(e)
		}
	}
	if _, ok := what.Glyph(1, []int{5}); ok {
		t.Error("a delta that is not that of the glyph")
	}
	if _, ok := what.Glyph(1, []int{0}); !ok {
		t.Error("a delta that plays no part")
	}
}

// P26.2, P26.3, P26.7
func TestNil(t *testing.T) {
	var none *Known
	f := example(t)
	for _, k := range []*Known{none, {}} {
		if k.Take(plain(t, f, key(1, 0, 0))) != api.ErrArg || k.Drop(key(1, 0, 0)) != api.ErrArg || k.Keys() != nil || !reflect.DeepEqual(k.Core(), api.Core{}) {
			t.Error("a zero Known")
		}
		_, body := k.Body(key(1, 0, 0))
		_, lookup := k.Lookup(0)
		_, glyph := k.Glyph(0, nil)
		if body || lookup || glyph {
			t.Error("something is there")
		}
	}
}

// P26.8, P26.9
func TestAllParts(t *testing.T) {
	r := rand.New(rand.NewSource(26))
	f := parse(t, "font a 1;axis w -9 0 64 -9=-64 0=0 64=64;region 0/64/64;region -64/-3/0;region -5/0/64;lookup 0;rule {2} | {1} {0,2} | {1} > 2;rule | {1} | call 0:1 0:1;lookup 7;lookup 3;rule | {2} | >;char 65 1 9;"+
		"glyph 12;contour 0,0 10,0~ 10,20;contour 1,2 3,4 -5,-6~;anchor 1 5,20;hang 3 -1,2;delta 0 4 1,2 8,0 0,0 2,0 0,0 1,1 2,2 3,3;delta 1 -4 1,2 8,0 0,0 2,0 0,0 1,1 2,2 -3,3;program push -64 sety 3;glyph 0;glyph 9;contour 5,5 40,0~ 1,60;delta 1 0 3,4 0,0 0,0 0,0;delta 2 9 3,4 5,0 0,0 0,0;")
	other := f
	other.Glyphs = slices.Clone(f.Glyphs)
	other.Glyphs[1].Advance = 3
	other = parts.Rooted(other)
	for range 60 {
		k := open(t, f.Core)
		keys := parts.Keys(f)
		r.Shuffle(len(keys), func(i, j int) { keys[i], keys[j] = keys[j], keys[i] })
		keys = keys[:r.Intn(len(keys)+1)]
		var there []api.Key
		for _, x := range keys {
			for range 1 + r.Intn(2) {
				if e := k.Take(plain(t, f, x)); e != api.OK {
					t.Fatal(x, e)
				}
			}
			there = append(there, x)
			before := k.Keys()
			if e := k.Take(plain(t, other, x)); e != api.ErrProof || !slices.Equal(k.Keys(), before) {
				t.Fatal("a part of another font", x, e)
			}
		}
		slices.SortFunc(there, compareKeys)
		if !slices.Equal(k.Keys(), there) {
			t.Fatal(k.Keys(), there)
		}
		for n, l := range f.Lookups {
			got, ok := k.Lookup(n)
			if ok != slices.Contains(there, key(1, n, 0)) || ok && !font.Same(api.Font{Lookups: []api.Lookup{got}}, api.Font{Lookups: []api.Lookup{l}}) {
				t.Fatal("lookup", n)
			}
		}
		for n, g := range f.Glyphs {
			at := []int{r.Intn(129) - 64}
			want := slices.Contains(there, key(2, n, 0))
			for _, d := range g.Deltas {
				want = want && (slices.Contains(there, key(3, n, d.Region)) || axes.Scalar(f.Core.Regions[d.Region], at).Num == 0)
			}
			got, ok := k.Glyph(n, at)
			if ok != want {
				t.Fatalf("glyph %d at %v: %v", n, at, ok)
			}
			set := api.Setting{Size: 4 + r.Intn(29), At: at}
			a, e1 := fit.At(got, f.Core.Regions, set)
			b, e2 := fit.At(g, f.Core.Regions, set)
			if ok && (e1 != api.OK || e2 != api.OK || !reflect.DeepEqual(a, b)) {
				t.Fatalf("glyph %d at %v: %v, not %v", n, set, a, b)
			}
		}
	}
}
