package patch

import (
	"math"
	"reflect"
	"slices"
	"strings"
	"testing"

	"abugida/api"
	"abugida/closure"
	"abugida/diff"
	"abugida/parts"
	"abugida/source"
	"abugida/wire"
)

func parse(t *testing.T, s string) api.Font {
	t.Helper()
	f, n, e := source.Parse(strings.ReplaceAll(s, ";", "\n"))
	if e != api.OK {
		t.Fatal(n, e)
	}
	return parts.Rooted(f)
}

func example(t *testing.T) api.Font {
	return parse(t, "font a 7;axis w 0 0 64 0=0 64=64;region 0/64/64;lookup 0;rule | {1} | > 2;lookup 5;rule | {2} | > 0;char 64 1 9;"+
		"glyph 12;contour 0,0 10,0 10,20 30,40 50,60 70,80;anchor 1 5,20;glyph 3;contour 0,0 10,0 10,20 30,40 50,60 70,90;delta 0 4 0,0 8,0 0,0 2,0 0,0 1,1 0,0;glyph 0;glyph 5;contour 0,0 10,0 10,20 30,40 50,60 70,80;anchor 1 5,20;")
}

func key(kind, n, region int) api.Key { return api.Key{Kind: kind, N: n, Region: region} }

// P25.1
func TestMake(t *testing.T) {
	f := example(t)
	for _, k := range parts.Keys(f) {
		for _, base := range append(parts.Keys(f), api.Key{}) {
			p, e := Make(f, k, base)
			body, _ := parts.Body(f, k)
			index, proof, _ := parts.Proof(f, k)
			if base != (api.Key{}) {
				from, _ := parts.Body(f, base)
				body = diff.Make(from, body)
			}
			want := api.Patch{Font: "a", Version: 7, Key: k, Base: base, Body: body, Index: index, Proof: proof}
			if e != api.OK || !reflect.DeepEqual(p, want) {
				t.Errorf("%v from %v: %v %v", k, base, p, e)
			}
		}
	}
	without, other := f, f
	without.Core.Root = ""
	other.Core.Root = "12345678"
	wrong := without
	wrong.Core.Version = 0
	for k, x := range []struct {
		f       api.Font
		k, base api.Key
		want    api.Errno
	}{
		{without, key(4, 0, 0), api.Key{}, api.ErrRoot}, {other, key(1, 0, 0), api.Key{}, api.ErrRoot}, {wrong, key(4, 0, 0), api.Key{}, api.ErrVersion}, {f, key(4, 0, 0), api.Key{}, api.ErrNone}, {f, api.Key{}, api.Key{}, api.ErrNone}, {f, key(1, 0, 0), key(1, 2, 0), api.ErrNone}, {f, key(1, 0, 0), key(0, 1, 0), api.ErrNone}, {f, key(3, 0, 0), api.Key{}, api.ErrNone},
	} {
		if p, e := Make(x.f, x.k, x.base); e != x.want || !reflect.DeepEqual(p, api.Patch{}) {
			t.Errorf("call %d: %v", k, e)
		}
	}
}

func request(features int, chars ...int) api.Request {
	return api.Request{Chars: chars, Features: features, Sizes: [2]int{4, 32}, Axes: [][2]int{{0, 64}}}
}

// P25.2
func TestAnswer(t *testing.T) {
	f := example(t)
	for _, have := range [][]api.Key{nil, {key(2, 0, 0)}, {key(2, 9, 0), key(2, 3, 0), key(2, 0, 0)}, {key(1, 0, 0), key(2, 1, 0), key(3, 1, 0)}, {key(1, 1, 0), key(4, 0, 0), key(2, 2, 0)}} {
		for _, q := range []api.Request{request(0, 64), request(32, 64), request(0)} {
			var want []api.Patch
			for _, k := range closure.Need(f, q) {
				if slices.Contains(have, k) {
					continue
				}
				p, _ := Make(f, k, api.Key{})
				for _, b := range have {
					if b.Kind == k.Kind && slices.Contains(parts.Keys(f), b) {
						if other, _ := Make(f, k, b); len(other.Body) < len(p.Body) {
							p = other
						}
						break
					}
				}
				want = append(want, p)
			}
			if got, e := Answer(f, q, have); e != api.OK || !reflect.DeepEqual(got, want) {
				t.Errorf("%v for one who has %v: %v %v", q, have, got, e)
			}
		}
	}
	got, _ := Answer(f, request(0, 64), []api.Key{key(2, 3, 0)})
	if i := slices.IndexFunc(got, func(p api.Patch) bool { return p.Key == key(2, 0, 0) }); i < 0 || got[i].Base != key(2, 3, 0) {
		t.Error("a difference that is shorter", got)
	}
	// The difference has six bytes, like the body itself: the patch is plain.
	same := parse(t, "font a 7;axis w 0 0 64 0=0 64=64;region 0/64/64;char 64 1 9;glyph 1;anchor 1 0,0;delta 0 1 2,3 0,0;glyph 1;anchor 1 0,0;delta 0 1 2,3 0,0;")
	got, _ = Answer(same, request(0, 64), []api.Key{key(3, 0, 0)})
	if last := got[len(got)-1]; last.Key != key(3, 1, 0) || last.Base != (api.Key{}) || len(last.Body) != 6 {
		t.Error("a difference that is not shorter", last)
	}
	without := f
	without.Core.Root = ""
	wrong := without
	wrong.Glyphs = nil
	for k, x := range []struct {
		f    api.Font
		q    api.Request
		want api.Errno
	}{{without, request(0, 1, 1), api.ErrRoot}, {wrong, request(0), api.ErrMany}, {f, request(0, 1, 1), api.ErrChar}, {f, api.Request{}, api.ErrArg}, {f, api.Request{Sizes: [2]int{4, 4}}, api.ErrAxis}} {
		if got, e := Answer(x.f, x.q, nil); e != x.want || got != nil {
			t.Errorf("call %d: %v", k, e)
		}
	}
}

// P25.3
func TestOpen(t *testing.T) {
	f := example(t)
	p, _ := Make(f, key(2, 1, 0), api.Key{})
	by, _ := Make(f, key(2, 1, 0), key(2, 0, 0))
	base, _ := parts.Body(f, key(2, 0, 0))
	want, _ := parts.Body(f, key(2, 1, 0))
	for k, x := range []struct {
		p      api.Patch
		base   string
		change func(c *api.Core, p *api.Patch)
		want   api.Errno
	}{
		{p, "", func(*api.Core, *api.Patch) {}, api.OK}, {p, "anything", func(*api.Core, *api.Patch) {}, api.OK}, {by, base, func(*api.Core, *api.Patch) {}, api.OK}, {by, "", func(*api.Core, *api.Patch) {}, api.ErrRange}, {by, strings.Repeat("x", len(base)), func(*api.Core, *api.Patch) {}, api.ErrProof},
		{p, "", func(c *api.Core, p *api.Patch) { c.Version = 0; p.Font = "b" }, api.ErrVersion}, {p, "", func(c *api.Core, p *api.Patch) { c.Name = ""; p.Version = 8 }, api.ErrName}, {p, "", func(_ *api.Core, p *api.Patch) { p.Font = "b"; p.Version = 8 }, api.ErrName}, {p, "", func(_ *api.Core, p *api.Patch) { p.Version = 8; p.Body += "x" }, api.ErrVersion},
		{p, "", func(_ *api.Core, p *api.Patch) { p.Body += "x" }, api.ErrProof}, {p, "", func(_ *api.Core, p *api.Patch) { p.Index++ }, api.ErrProof}, {p, "", func(_ *api.Core, p *api.Patch) { p.Index = -1 }, api.ErrProof}, {p, "", func(_ *api.Core, p *api.Patch) { p.Key.N++ }, api.ErrProof}, {p, "", func(_ *api.Core, p *api.Patch) { p.Proof = p.Proof[1:] }, api.ErrProof}, {p, "", func(c *api.Core, _ *api.Patch) { c.Root = "" }, api.ErrProof}, {p, "", func(c *api.Core, _ *api.Patch) { c.Root = "12345678" }, api.ErrProof},
		{p, "", func(_ *api.Core, p *api.Patch) { p.Body = strings.Repeat("x", 65537) }, api.ErrMany}, {p, "", func(_ *api.Core, p *api.Patch) { p.Body = strings.Repeat("x", 65536) }, api.ErrProof}, {by, base, func(_ *api.Core, p *api.Patch) { p.Body += "x" }, api.ErrForm}, {p, base, func(_ *api.Core, p *api.Patch) { p.Base = key(-1, 0, 0) }, api.ErrForm}, {p, "", func(_ *api.Core, p *api.Patch) { p.Base.N = 1 }, api.OK},
		{by, base, func(_ *api.Core, p *api.Patch) {
			p.Body = wire.Ints(nil) + wire.Texts([]string{strings.Repeat("x", 65537)})
		}, api.ErrMany},
	} {
		c, q := f.Core, x.p
		x.change(&c, &q)
		body, e := Open(c, q, x.base)
		if e != x.want || e == api.OK && body != want || e != api.OK && body != "" {
			t.Errorf("call %d: %v", k, e)
		}
	}
}

// P25.4
func TestCode(t *testing.T) {
	p := api.Patch{Font: "f", Version: 2, Key: key(3, 5, 1), Base: key(2, -1, 0), Body: "ab", Index: 64, Proof: []string{"", "x"}}
	want := "\x02f\x04\x0c\x06\x0a\x02\x04\x01\x00\x04ab\x80\x01\x04\x00\x02x"
	if got := Encode(p); got != want {
		t.Errorf("%x", got)
	}
	for k, p := range []api.Patch{p, {}, {Font: "\x00", Version: math.MinInt, Index: math.MaxInt, Body: strings.Repeat("y", 300)}} {
		s := Encode(p)
		got, e := Decode(s)
		if e != api.OK || Encode(got) != s || got.Key != p.Key || got.Base != p.Base || got.Body != p.Body || got.Index != p.Index {
			t.Errorf("patch %d: %v %v", k, got, e)
		}
		for cut := range len(s) {
			if got, e := Decode(s[:cut]); e != api.ErrForm || !reflect.DeepEqual(got, api.Patch{}) {
				t.Errorf("patch %d cut at %d: %v", k, cut, e)
			}
		}
		if _, e := Decode(s + "\x00"); e != api.ErrForm {
			t.Errorf("patch %d with a byte more: %v", k, e)
		}
	}
	for _, s := range []string{"\x00\x00\x0a\x00\x00\x00\x00\x00\x00\x00\x00", "\x00\x00\x0e\x00\x00\x00\x00\x00\x00\x00\x00\x00\x00", "\x00\x00\x00\x00\x00\x00"} {
		if _, e := Decode(s); e != api.ErrForm {
			t.Errorf("%x: %v", s, e)
		}
	}
	long := Encode(api.Patch{Body: strings.Repeat("y", 131058)})
	if _, e := Decode(long); len(long) != 131072 || e != api.OK {
		t.Error("131072 bytes", len(long), e)
	}
	if _, e := Decode(long + "x"); e != api.ErrMany {
		t.Error("131073 bytes", e)
	}
}

// P25.5, P25.6
func TestWhoeverOpensPatches(t *testing.T) {
	f := example(t)
	q := request(32, 64)
	for _, have := range [][]api.Key{nil, {key(2, 3, 0)}, {key(1, 0, 0), key(2, 2, 0)}} {
		bodies := map[api.Key]string{}
		for _, k := range have {
			bodies[k], _ = parts.Body(f, k)
		}
		l, _ := Answer(f, q, have)
		for _, p := range l {
			body, e := Open(f.Core, p, bodies[p.Base])
			if e != api.OK {
				t.Fatal(p.Key, e)
			}
			bodies[p.Key] = body
			for i := range p.Body {
				bent := p
				bent.Body = p.Body[:i] + string(rune(p.Body[i]^1)) + p.Body[i+1:]
				if len(bent.Body) != len(p.Body) {
					continue
				}
				if got, e := Open(f.Core, bent, bodies[p.Base]); e == api.OK && got != body {
					t.Fatalf("%v with another byte %d is opened", p.Key, i)
				}
			}
		}
		for _, k := range closure.Need(f, q) {
			if body, _ := parts.Body(f, k); bodies[k] != body {
				t.Errorf("%v has not come", k)
			}
		}
	}
}
