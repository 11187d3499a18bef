package parts

import (
	"encoding/hex"
	"math"
	"reflect"
	"slices"
	"strings"
	"testing"

	"abugida/api"
	"abugida/digest"
	"abugida/font"
	"abugida/outline"
	"abugida/source"
	"abugida/wire"
)

func parse(t *testing.T, s string) api.Font {
	t.Helper()
	f, n, e := source.Parse(strings.ReplaceAll(s, ";", "\n"))
	if e != api.OK {
		t.Fatal(n, e)
	}
	return f
}

func example(t *testing.T) api.Font {
	return parse(t, "font a 1;axis w 0 0 64 0=0 64=64;region 0/64/64;lookup 0;rule | {1} | > 2;glyph 12;contour 0,0 10,0 10,20;anchor 1 5,20;delta 0 4 0,0 8,0 0,0 2,0 0,0;glyph 0;glyph 0;")
}

func big(t *testing.T) api.Font {
	return parse(t, "font a 1;axis w -9 0 64 -9=-64 0=0 64=64;region 0/64/64;region -64/-3/0;lookup 0;rule {2} | {1} {0,2} | {1} > 2;rule | {1} | call 0:1 0:1;lookup 7;lookup 3;rule | {2} | >;char 65 1 9;"+
		"glyph 12;contour 0,0 10,0~ 10,20;contour 1,2 3,4 -5,-6~;anchor 1 5,20;hang 3 -1,2;delta 0 4 1,2 8,0 0,0 2,0 0,0 1,1 2,2 3,3;delta 1 -4 1,2 8,0 0,0 2,0 0,0 1,1 2,2 -3,3;program push -64 sety 3;glyph 0;glyph 9;anchor 2 0,0;delta 1 0 3,4 0,0;")
}

func key(kind, n, region int) api.Key { return api.Key{Kind: kind, N: n, Region: region} }

// P22.1
func TestKeys(t *testing.T) {
	if got := Keys(example(t)); !slices.Equal(got, []api.Key{key(1, 0, 0), key(2, 0, 0), key(2, 1, 0), key(2, 2, 0), key(3, 0, 0)}) {
		t.Error(got)
	}
	if got := Keys(big(t)); !slices.Equal(got, []api.Key{key(1, 0, 0), key(1, 1, 0), key(1, 2, 0), key(2, 0, 0), key(2, 1, 0), key(2, 2, 0), key(3, 0, 0), key(3, 0, 1), key(3, 2, 1)}) {
		t.Error(got)
	}
	wrong := api.Font{Glyphs: []api.Glyph{{Deltas: []api.Delta{{Region: 5}, {Region: -7}, {Region: 5}}}}}
	if got := Keys(wrong); !slices.Equal(got, []api.Key{key(2, 0, 0), key(3, 0, 5), key(3, 0, -7), key(3, 0, 5)}) {
		t.Error(got)
	}
	if Keys(api.Font{}) != nil {
		t.Error("no parts")
	}
}

// P22.2
func TestBody(t *testing.T) {
	f := example(t)
	for _, x := range []struct {
		k    api.Key
		want string
		e    api.Errno
	}{
		{key(1, 0, 0), "02 00 02 02 02 00 02 04 00", api.OK}, {key(3, 0, 0), "08 14 00 00 10 00 00 00 04 00 00 00", api.OK}, {key(3, 0, 1), "", api.ErrNone}, {key(1, 1, 0), "", api.ErrNone}, {key(1, 0, 1), "", api.ErrNone}, {key(2, 3, 0), "", api.ErrNone}, {key(2, -1, 0), "", api.ErrNone}, {key(0, 0, 0), "", api.ErrNone}, {key(4, 0, 0), "", api.ErrNone}, {key(3, 1, 0), "", api.ErrNone},
		{key(2, 0, 0), "02 12 00 00 02 14 00 02 14 28 02 06 02 0a 28 00 00 00 18 00 02 00", api.OK}, {key(2, 1, 0), "00 00 00 00 00 00 00 00", api.OK},
	} {
		got, e := Body(f, x.k)
		if hex.EncodeToString([]byte(got)) != strings.ReplaceAll(x.want, " ", "") || e != x.e {
			t.Errorf("Body of %v: %x %v", x.k, got, e)
		}
	}
	twice := api.Font{Glyphs: []api.Glyph{{Deltas: []api.Delta{{Region: 5, Advance: 1}, {Region: 5, Advance: 2}}}}}
	if got, e := Body(twice, key(3, 0, 5)); got != "\x02\x00" || e != api.OK {
		t.Errorf("the first of two deltas: %x", got)
	}
}

// P22.3, P22.6
func TestRead(t *testing.T) {
	f := big(t)
	together := api.Font{Core: f.Core, Lookups: make([]api.Lookup, len(f.Lookups)), Glyphs: make([]api.Glyph, len(f.Glyphs))}
	last := api.Key{}
	for _, k := range Keys(f) {
		if k.Kind < last.Kind || k.Kind == last.Kind && (k.N < last.N || k.N == last.N && k.Region <= last.Region) {
			t.Errorf("%v stands behind %v", k, last)
		}
		last = k
		body, _ := Body(f, k)
		p, e := Read(k, body)
		if e != api.OK || p.Key != k {
			t.Fatalf("%v: %v", k, e)
		}
		switch k.Kind {
		case api.KindLookup:
			together.Lookups[k.N] = p.Lookup
			if !reflect.DeepEqual(p.Glyph, api.Glyph{}) || !reflect.DeepEqual(p.Delta, api.Delta{}) {
				t.Errorf("%v: more is set", k)
			}
		case api.KindGlyph:
			want := f.Glyphs[k.N]
			want.Deltas = nil
			for _, d := range f.Glyphs[k.N].Deltas {
				want.Deltas = append(want.Deltas, api.Delta{Region: d.Region})
			}
			if !outline.Same(p.Glyph, want) || len(p.Lookup.Rules) > 0 || !reflect.DeepEqual(p.Delta, api.Delta{}) {
				t.Errorf("%v: %v", k, p)
			}
			together.Glyphs[k.N] = p.Glyph
			together.Glyphs[k.N].Deltas = nil
		case api.KindDelta:
			together.Glyphs[k.N].Deltas = append(together.Glyphs[k.N].Deltas, p.Delta)
			if !reflect.DeepEqual(p.Glyph, api.Glyph{}) || len(p.Lookup.Rules) > 0 {
				t.Errorf("%v: more is set", k)
			}
		}
		for cut := range len(body) {
			if p, e := Read(k, body[:cut]); e != api.ErrForm || !reflect.DeepEqual(p, api.Part{}) {
				t.Errorf("%v cut at %d: %v", k, cut, e)
			}
		}
		if _, e := Read(k, body+"\x00"); e != api.ErrForm {
			t.Errorf("%v with a byte more: %v", k, e)
		}
	}
	if !font.Same(together, f) {
		t.Error("the font cannot be put together again")
	}
}

// P22.3
func TestReadErrors(t *testing.T) {
	delta := "\x08\x14\x00\x00\x10\x00\x00\x00\x04\x00\x00\x00"
	if p, e := Read(key(3, 0, 2), delta); e != api.OK || p.Delta.Region != 2 || p.Delta.Advance != 4 || p.Delta.Moves[1] != [2]int{8, 0} {
		t.Error(p, e)
	}
	for k, x := range []struct {
		k    api.Key
		body string
		want api.Errno
	}{
		{key(3, 0, 2), delta + "\x00", api.ErrForm}, {key(3, 0, 8), delta, api.ErrKey}, {key(2, 0, 0), "\x00", api.ErrForm}, {key(3, 99, 7), delta, api.OK}, {key(3, 100, 7), delta, api.ErrKey}, {key(3, 0, -1), delta, api.ErrKey}, {key(3, -1, 0), delta, api.ErrKey},
		{key(1, 11, 0), "\x00", api.OK}, {key(1, 12, 0), "\x00", api.ErrKey}, {key(1, -1, 0), "\x00", api.ErrKey}, {key(1, 0, 1), "\x00", api.ErrKey}, {key(2, 99, 0), "", api.ErrForm}, {key(2, 100, 0), "", api.ErrKey}, {key(2, 0, 1), "", api.ErrKey}, {key(0, 0, 0), "\x00", api.ErrKey}, {key(4, 0, 0), "\x00", api.ErrKey}, {key(math.MinInt, 0, 0), "", api.ErrKey},
		{key(3, 0, 0), "\x00\x02\x00", api.ErrForm}, {key(3, 0, 0), "\x00\x00", api.OK}, {key(1, 0, 0), "\x01", api.ErrForm}, {key(1, 0, 0), "\x02\x00\x00\x00\x00\x02\x00", api.ErrForm}, {key(1, 0, 0), "\x02\x00\x00\x00\x00\x00", api.OK}, {key(1, 0, 0), "\x02\x01\x00\x00\x00\x00", api.ErrForm}, {key(1, 0, 0), "\xfe\xff\xff\xff\xff\xff\xff\xff\xff\x01", api.ErrForm},
		{key(2, 0, 0), "\x02\x06\x00\x00\x02\x00\x00\x00\x00\x00\x00\x00", api.OK}, {key(2, 0, 0), "\x02\x06\x00\x00\x04\x00\x00\x00\x00\x00\x00\x00", api.ErrForm}, {key(2, 0, 0), "\x02\x04\x00\x00\x00\x00\x00\x00\x00\x00\x00", api.ErrForm},
		{key(1, 0, 12), strings.Repeat("x", 65537), api.ErrKey}, {key(1, 0, 0), strings.Repeat("x", 65537), api.ErrMany}, {key(3, 0, 0), "\x00" + wire.Ints(make([]int, 65532)), api.OK},
	} {
		if p, e := Read(x.k, x.body); e != x.want || e != api.OK && !reflect.DeepEqual(p, api.Part{}) {
			t.Errorf("body %d: %v", k, e)
		}
	}
}

// P22.4, P22.5, P22.7
func TestRootsAndProofs(t *testing.T) {
	for _, f := range []api.Font{example(t), big(t), {}, {Glyphs: []api.Glyph{{Deltas: []api.Delta{{Region: 5, Advance: 1}, {Region: 5, Advance: 2}}}}}} {
		var leaves []string
		for _, k := range Keys(f) {
			body, _ := Body(f, k)
			leaf := digest.Of(wire.Int(k.Kind) + wire.Int(k.N) + wire.Int(k.Region) + body)
			if Leaf(k, body) != leaf {
				t.Errorf("leaf of %v", k)
			}
			leaves = append(leaves, leaf)
		}
		if Root(f) != digest.Root(leaves) {
			t.Error("Root")
		}
		for i, k := range Keys(f) {
			index, proof, e := Proof(f, k)
			first := slices.Index(Keys(f), k)
			if e != api.OK || index != first || !slices.Equal(proof, digest.Proof(leaves, first)) || !digest.Verify(Root(f), leaves[i], index, proof) && first == i {
				t.Errorf("Proof of %v: %d %v", k, index, e)
			}
		}
		for _, k := range []api.Key{key(1, 9, 0), key(0, 0, 0), key(2, 0, 1)} {
			if i, proof, e := Proof(f, k); e != api.ErrNone || i != 0 || proof != nil {
				t.Errorf("Proof of %v: %v", k, e)
			}
		}
		rooted := Rooted(f)
		if rooted.Core.Root != Root(f) {
			t.Error("Rooted")
		}
		rooted.Core.Root = f.Core.Root
		if !font.Same(rooted, f) {
			t.Error("Rooted changes more")
		}
	}
	f := big(t)
	r := Rooted(f)
	r.Glyphs[0].Contours[0][0].X++
	r.Glyphs[0].Deltas[0].Moves[0][0]++
	r.Lookups[0].Rules[0].In[0][0]++
	r.Core.Chars[0].Code++
	r.Core.Axes[0].Map[0][0]++
	r.Core.Heads[0].First[0]++
	if !font.Same(f, big(t)) {
		t.Error("Rooted shares memory")
	}
}

// P22.8
func TestOtherParts(t *testing.T) {
	f, g := big(t), big(t)
	g.Glyphs[0].Program[0].N++
	for _, k := range Keys(f) {
		a, _ := Body(f, k)
		b, _ := Body(g, k)
		if (a == b) != (k != key(2, 0, 0)) {
			t.Errorf("%v: %x and %x", k, a, b)
		}
	}
	g = big(t)
	g.Lookups[0].Rules[0].Ahead[0] = []int{1, 2}
	a, _ := Body(f, key(1, 0, 0))
	if b, _ := Body(g, key(1, 0, 0)); a == b || Root(f) == Root(g) {
		t.Error("another lookup")
	}
}
