package seal

import (
	"fmt"
	"math/rand"
	"reflect"
	"slices"
	"strings"
	"testing"

	"abugida/api"
	"abugida/closure"
	"abugida/digest"
	"abugida/flow"
	"abugida/known"
	"abugida/page"
	"abugida/parts"
	"abugida/picture"
	"abugida/scan"
	"abugida/source"
)

func parse(t *testing.T, s string) api.Font {
	t.Helper()
	f, n, e := source.Parse(strings.ReplaceAll(s, ";", "\n"))
	if e != api.OK {
		t.Fatal(n, e, s)
	}
	return parts.Rooted(f)
}

func example(t *testing.T) (api.Doc, []api.Font) {
	f := parse(t, "font a 1;char 65 0 30;glyph 30;contour 0,0 10,0~ 5,20;")
	return document(40, []api.Font{f}, api.Para{Text: "A!", Set: api.Setting{Size: 8}}), []api.Font{f}
}

func document(width int, fonts []api.Font, paras ...api.Para) api.Doc {
	d := api.Doc{Width: width, Paras: paras}
	for _, f := range fonts {
		d.Fonts = append(d.Fonts, api.Pin{Name: f.Core.Name, Version: f.Core.Version, Root: f.Core.Root})
	}
	return d
}

func none(n int) [][][2]int { return make([][][2]int, n) }

// P36.1, P36.2
func TestExample(t *testing.T) {
	d, fonts := example(t)
	s, e := Make(d, fonts, [2]int{8, 9}, none(1))
	if e != api.OK || !reflect.DeepEqual(s.Steps, [][]api.Step{{{Why: 1, N: -1}}}) || len(s.Parts) != 1 {
		t.Fatal(s, e)
	}
	body, _ := parts.Body(fonts[0], api.Key{Kind: 2})
	if p := s.Parts[0]; p.Font != 0 || p.Key != (api.Key{Kind: 2}) || p.Body != body || p.Index != 0 || len(p.Proof) != 0 {
		t.Error(p)
	}
	q := Request(s, 0)
	if !slices.Equal(q.Chars, []int{65}) || q.Features != 0 || q.Sizes != [2]int{8, 9} || len(q.Axes) != 0 {
		t.Error(q)
	}
	for _, n := range []int{1, -1, 7} {
		if q := Request(s, n); !reflect.DeepEqual(q, api.Request{}) {
			t.Errorf("request %d: %v", n, q)
		}
	}
	s.Axes = nil
	if q := Request(s, 0); !reflect.DeepEqual(q, api.Request{}) {
		t.Error("without ranges", q)
	}
}

// P36.1
func TestRequest(t *testing.T) {
	a := parse(t, "font a 1;char 64 0 30;char 65 0 30;glyph 30;")
	b := parse(t, "font b 1;axis w 0 0 9 0=0 9=64;char 65 0 30;char 66 0 30;char 97 0 30;glyph 30;")
	s := api.Seal{Doc: document(40, []api.Font{a, b}, api.Para{Text: "@A\xf0Aa!\n", Set: api.Setting{Features: 1 | 32 | 1<<9 | 1<<10}}, api.Para{Text: "BBA", Set: api.Setting{Features: 64}}), Sizes: [2]int{7, 6}, Axes: [][][2]int{nil, {{3, 4}}}, Cores: []api.Core{a.Core, b.Core}}
	for n, want := range []api.Request{{Chars: []int{64, 65, 240}, Features: 32 | 64 | 512, Sizes: [2]int{7, 6}}, {Chars: []int{65, 66, 97}, Features: 32 | 64 | 512, Sizes: [2]int{7, 6}, Axes: [][2]int{{3, 4}}}} {
		if q := Request(s, n); !reflect.DeepEqual(q, want) {
			t.Errorf("font %d: %v", n, q)
		}
	}
	Request(s, 1).Axes[0][0] = 9
	if s.Axes[1][0][0] != 3 {
		t.Error("the ranges are shared")
	}
}

// P36.2
func TestMakeErrors(t *testing.T) {
	axis := func(t *testing.T) (api.Doc, []api.Font) {
		f := parse(t, "font a 1;axis w -9 0 9 -9=-64 0=0 9=64;char 65 0 30;glyph 30;")
		return document(40, []api.Font{f}, api.Para{Text: "A", Set: api.Setting{Size: 8, At: []int{5, 60}}}), []api.Font{f}
	}
	for k, x := range []struct {
		make   func(t *testing.T) (api.Doc, []api.Font)
		change func(d *api.Doc, f []api.Font) []api.Font
		sizes  [2]int
		axes   [][][2]int
		want   api.Errno
	}{
		{example, nil, [2]int{9, 12}, none(1), api.ErrRange}, {example, nil, [2]int{3, 9}, none(1), api.ErrRange}, {example, nil, [2]int{8, 33}, none(1), api.ErrRange}, {example, nil, [2]int{9, 8}, none(1), api.ErrRange}, {example, nil, [2]int{4, 7}, none(1), api.ErrRange}, {example, nil, [2]int{8, 9}, [][][2]int{{{0, 0}}}, api.ErrAxis}, {example, nil, [2]int{8, 9}, none(0), api.ErrAxis}, {example, nil, [2]int{8, 9}, none(2), api.ErrAxis}, {example, nil, [2]int{8, 8}, none(1), api.OK}, {example, nil, [2]int{3, 9}, none(2), api.ErrRange},
		{example, func(d *api.Doc, f []api.Font) []api.Font { f[0].Core.Root = ""; d.Width = 0; return f }, [2]int{8, 9}, none(1), api.ErrRoot},
		{example, func(d *api.Doc, f []api.Font) []api.Font { f[0].Core.Root = "12345678"; return f }, [2]int{8, 9}, none(1), api.ErrRoot},
		{example, func(d *api.Doc, f []api.Font) []api.Font { f[0].Glyphs = nil; f[0].Core.Root = ""; return f }, [2]int{8, 9}, none(1), api.ErrMany},
		{example, func(d *api.Doc, f []api.Font) []api.Font { d.Width = 0; return f }, [2]int{3, 9}, none(1), api.ErrRange},
		{example, func(d *api.Doc, f []api.Font) []api.Font { return nil }, [2]int{3, 9}, none(0), api.ErrMissing},
		{example, func(d *api.Doc, f []api.Font) []api.Font { d.Fonts[0].Version = 2; return f }, [2]int{3, 9}, none(1), api.ErrVersion},
		{axis, nil, [2]int{4, 32}, [][][2]int{{{5, 5}}}, api.OK}, {axis, nil, [2]int{4, 32}, [][][2]int{{{6, 9}}}, api.ErrAxis}, {axis, nil, [2]int{4, 32}, [][][2]int{{{-64, 4}}}, api.ErrAxis}, {axis, nil, [2]int{4, 32}, [][][2]int{{{-65, 64}}}, api.ErrAxis}, {axis, nil, [2]int{4, 32}, none(1), api.ErrAxis}, {axis, nil, [2]int{9, 32}, [][][2]int{{{6, 9}}}, api.ErrRange},
		{axis, func(d *api.Doc, f []api.Font) []api.Font {
			d.Paras = append(d.Paras, api.Para{Set: api.Setting{Size: 9}})
			return f
		}, [2]int{8, 9}, [][][2]int{{{1, 5}}}, api.ErrAxis},
		{axis, func(d *api.Doc, f []api.Font) []api.Font {
			d.Paras = append(d.Paras, api.Para{Set: api.Setting{Size: 9}})
			return f
		}, [2]int{8, 9}, [][][2]int{{{0, 5}}}, api.OK},
		{axis, func(d *api.Doc, f []api.Font) []api.Font {
			d.Paras = append([]api.Para{{Set: api.Setting{Size: 8, At: []int{9}}}}, d.Paras[0])
			d.Paras[1].Set.Size = 7
			return f
		}, [2]int{8, 9}, [][][2]int{{{0, 5}}}, api.ErrAxis},
	} {
		d, fonts := x.make(t)
		if x.change != nil {
			fonts = x.change(&d, fonts)
		}
		if s, e := Make(d, fonts, x.sizes, x.axes); e != x.want || e != api.OK && !reflect.DeepEqual(s, api.Seal{}) {
			t.Errorf("call %d: %v", k, e)
		}
	}
}

// P36.3, P36.5
func TestCode(t *testing.T) {
	d, fonts := example(t)
	s, _ := Make(d, fonts, [2]int{8, 9}, none(1))
	want := "\x50\x02\x02a\x02\x10" + fonts[0].Core.Root + "\x02\x04A!\x10\x00\x00" + "\x10\x12" + "\x02\x00" + "\x02"
	if got := Encode(s); !strings.HasPrefix(got, want) || !strings.HasSuffix(got, "\x02\x02\x00\x02\x01\x00\x00") {
		t.Errorf("%x", got)
	}
	full := api.Seal{
		Doc:   api.Doc{Width: -5, Fonts: []api.Pin{{Name: "\x00", Version: 300, Root: "r"}, {}}, Paras: []api.Para{{Text: "t", Set: api.Setting{Size: 1, At: []int{5, -6}, Features: 7}}, {}}},
		Sizes: [2]int{3, -2}, Axes: [][][2]int{{{1, 2}, {3, 4}}, nil}, Cores: []api.Core{{}, fonts[0].Core},
		Parts: []api.Carried{{Font: 1, Key: api.Key{Kind: 2, N: 3, Region: 4}, Body: "b", Index: 5, Proof: []string{"p", ""}}, {}}, Steps: [][]api.Step{{{Glyph: 1, Why: 2, N: 3, Rule: 4, Out: 5}, {}}, nil},
	}
	for k, s := range []api.Seal{s, {}, full} {
		code := Encode(s)
		got, e := Decode(code)
		if e != api.OK || Encode(got) != code || !sameSeal(got, s) {
			t.Errorf("document %d: %v", k, e)
		}
		for cut := range len(code) {
			if got, e := Decode(code[:cut]); e != api.ErrForm || !reflect.DeepEqual(got, api.Seal{}) {
				t.Fatalf("document %d cut at %d: %v", k, cut, e)
			}
		}
		if _, e := Decode(code + "\x00"); e != api.ErrForm {
			t.Errorf("document %d with a byte more: %v", k, e)
		}
	}
	wrong := strings.Replace(Encode(api.Seal{Cores: []api.Core{{}}}), "\x12\x00", "\x12\x02", 1)
	if _, e := Decode(wrong); e != api.ErrForm {
		t.Error("a core that cannot be read", e)
	}
	if _, e := Decode("\x00\x01\x00\x00\x00\x00\x00\x00\x00"); e != api.ErrForm {
		t.Error("-1 fonts", e)
	}
	long := Encode(api.Seal{Doc: api.Doc{Fonts: []api.Pin{{Name: strings.Repeat("x", 1048562)}}}})
	if _, e := Decode(long); e != api.OK || len(long) != 1048576 {
		t.Error("1048576 bytes", len(long), e)
	}
	if _, e := Decode(long + "x"); e != api.ErrMany {
		t.Error("1048577 bytes", e)
	}
}

func sameSeal(a, b api.Seal) bool {
	text := func(s api.Seal) string {
		return strings.NewReplacer("[]", "").Replace(fmt.Sprintf("%q", []any{s.Doc, s.Sizes, s.Axes, s.Parts, s.Steps, len(s.Cores)}))
	}
	return text(a) == text(b)
}

// randomFont returns a right font with 3 lookups, 7 glyphs, one axis and programs.
func randomFont(t *testing.T, r *rand.Rand, name string, codes []int) api.Font {
	set := func() string {
		a := r.Intn(4)
		return fmt.Sprintf("{%d,%d}", a, a+1+r.Intn(3))
	}
	s := "font " + name + " 1;axis w -9 0 9 -9=-64 0=0 9=64;region 0/64/64;region -64/-10/0;"
	for k := range 3 {
		s += fmt.Sprintf("lookup %d;", max(0, r.Intn(14)-4))
		for range r.Intn(3) {
			s += "rule | " + set() + " |"
			if r.Intn(3) == 0 {
				s += " " + set()
			}
			if r.Intn(3) == 0 && k < 2 {
				s += fmt.Sprintf(" call 0:%d;", k+1)
			} else {
				s += " >" + []string{"", fmt.Sprintf(" %d", r.Intn(7)), fmt.Sprintf(" %d %d", r.Intn(7), r.Intn(7))}[r.Intn(3)] + ";"
			}
		}
	}
	for k, code := range codes {
		s += fmt.Sprintf("char %d %d 30;", code, (k*(1+r.Intn(3)))%7)
	}
	point := func() string {
		return fmt.Sprintf(" %d,%d%s", r.Intn(120)-30, r.Intn(120)-30, []string{"", "", "~"}[r.Intn(3)])
	}
	move := func() string { return fmt.Sprintf(" %d,%d", r.Intn(40)-20, r.Intn(40)-20) }
	for range 7 {
		s += fmt.Sprintf("glyph %d;contour%s%s%s%s;", r.Intn(90), point(), point(), point(), point())
		for k := range 2 {
			if r.Intn(2) == 0 {
				s += fmt.Sprintf("delta %d 9%s%s%s%s 0,0;", k, move(), move(), move(), move())
			}
		}
		s += []string{"", "program gety 1 round sety 1;", "program axis 0 if push 64 setx 2 else size sety 0 end;"}[r.Intn(3)]
	}
	return parse(t, s)
}

// P36.2, P36.4, P36.6
func TestSealedDocumentsShowEverything(t *testing.T) {
	r := rand.New(rand.NewSource(36))
	some := []byte{64, 65, 66, 104, 105, 240, 32, 97, 10}
	for range 120 {
		fonts := []api.Font{randomFont(t, r, "a", []int{32, 64, 65, 97, 104}), randomFont(t, r, "b", []int{64, 66, 104, 105})}
		var paras []api.Para
		for range 1 + r.Intn(2) {
			s := make([]byte, r.Intn(9))
			for i := range s {
				s[i] = some[r.Intn(len(some))]
			}
			paras = append(paras, api.Para{Text: string(s), Set: api.Setting{Size: 6 + r.Intn(3), At: []int{r.Intn(5)}, Features: r.Intn(1024)}})
		}
		d := document(40, fonts, paras...)
		ranges := [][][2]int{{{-r.Intn(2) * 30, 4 + r.Intn(20)}}, {{0, 4}}}
		s, e := Make(d, fonts, [2]int{5, 8}, ranges)
		if e != api.OK || !reflect.DeepEqual(s.Sizes, [2]int{5, 8}) || !reflect.DeepEqual(s.Axes, ranges) {
			t.Fatal(e)
		}
		i := 0
		var all []*known.Known
		for k, f := range fonts {
			q := Request(s, k)
			if !slices.Equal(s.Steps[k], closure.Steps(f, q)) {
				t.Fatal("steps")
			}
			here, _ := known.New(s.Cores[k])
			for _, key := range closure.Need(f, q) {
				body, _ := parts.Body(f, key)
				index, proof, _ := parts.Proof(f, key)
				if want := (api.Carried{Font: k, Key: key, Body: body, Index: index, Proof: proof}); !reflect.DeepEqual(s.Parts[i], want) || !digest.Verify(s.Cores[k].Root, parts.Leaf(key, body), index, proof) {
					t.Fatalf("%v, not %v", s.Parts[i], want)
				}
				if e := here.Take(api.Patch{Font: f.Core.Name, Version: 1, Key: key, Body: body, Index: index, Proof: proof}); e != api.OK {
					t.Fatal(e)
				}
				i++
			}
			all = append(all, here)
		}
		if i != len(s.Parts) {
			t.Fatal("more parts")
		}
		for _, p := range paras {
			for _, piece := range page.Pieces(s.Cores, p.Text) {
				k := piece.Level
				if k < 0 {
					continue
				}
				low, high := ranges[k][0][0], ranges[k][0][1]
				for _, at := range []int{low, high, low + r.Intn(high-low+1), 0} {
					set := api.Setting{Size: 5 + r.Intn(4), At: []int{at}, Features: p.Set.Features}
					text := p.Text[piece.From:piece.To]
					whole, e := picture.Whole(fonts[k], text, flow.Setting(s.Cores[k], set))
					if e != api.OK {
						continue
					}
					for c, shown := range picture.Run(all[k], text, set) {
						if !shown.Known || !scan.Same(shown.Map, whole[c]) {
							t.Fatalf("the cluster %d of %q at %v", c, text, set)
						}
					}
				}
			}
		}
		wider, e := Make(d, fonts, [2]int{4, 32}, [][][2]int{{{-64, 64}}, {{-64, 64}}})
		if e != api.OK {
			t.Fatal(e)
		}
		for _, p := range s.Parts {
			if !slices.ContainsFunc(wider.Parts, func(w api.Carried) bool { return w.Font == p.Font && w.Key == p.Key }) {
				t.Fatalf("%v is not carried with greater ranges", p.Key)
			}
		}
	}
}
