package picture

import (
	"fmt"
	"math/rand"
	"slices"
	"strings"
	"testing"

	"abugida/api"
	"abugida/attach"
	"abugida/cluster"
	"abugida/fit"
	"abugida/known"
	"abugida/parts"
	"abugida/patch"
	"abugida/scan"
	"abugida/shape"
	"abugida/source"
)

func parse(t *testing.T, s string) api.Font {
	t.Helper()
	f, n, e := source.Parse(strings.ReplaceAll(s, ";", "\n"))
	if e != api.OK {
		t.Fatal(n, e, s)
	}
	return parts.Rooted(f)
}

func example(t *testing.T) api.Font {
	return parse(t, "font a 1;char 64 1 9;glyph 3;glyph 70;contour 0,0 64,0 64,64 0,64;")
}

func with(t *testing.T, f api.Font, keys ...api.Key) *known.Known {
	t.Helper()
	k, e := known.New(f.Core)
	if e != api.OK {
		t.Fatal(e)
	}
	for _, key := range keys {
		p, _ := patch.Make(f, key, api.Key{})
		if e := k.Take(p); e != api.OK {
			t.Fatal(e)
		}
	}
	return k
}

func square(left, width, height int) api.Bitmap {
	b := api.Bitmap{Left: left, Width: width, Height: height}
	for range height {
		b.Rows = append(b.Rows, 1<<width-1)
	}
	return b
}

func isWaiting(s api.Shown) bool { return !s.Known && scan.Same(s.Map, api.Bitmap{}) }

// P28.1, P28.3, P28.5
func TestExamples(t *testing.T) {
	f := example(t)
	set := api.Setting{Size: 4}
	l, e := Whole(f, "@A", set)
	if e != api.OK || len(l) != 2 || !scan.Same(l[0], square(0, 4, 4)) || !scan.Same(l[1], api.Bitmap{}) {
		t.Error(l, e)
	}
	k := with(t, f, parts.Keys(f)...)
	if got := Cluster(k, []int{1, 1}, set); !got.Known || !scan.Same(got.Map, square(0, 8, 4)) {
		t.Error(got)
	}
	if got := Cluster(k, nil, set); !got.Known || !scan.Same(got.Map, api.Bitmap{}) {
		t.Error("no glyphs", got)
	}
	if got := Cluster(k, slices.Repeat([]int{0}, 200), set); !got.Known {
		t.Error("200 glyphs", got)
	}
	var none *known.Known
	for i, got := range []api.Shown{
		Cluster(with(t, f, parts.Keys(f)[0]), []int{1, 1}, set), Cluster(k, []int{1}, api.Setting{Size: 3}), Cluster(k, []int{1}, api.Setting{Size: 33}), Cluster(k, []int{1}, api.Setting{Size: 4, At: []int{0}}), Cluster(k, nil, api.Setting{Size: 3}),
		Cluster(none, nil, set), Cluster(&known.Known{}, nil, set), Cluster(k, []int{2}, set), Cluster(k, []int{-1}, set), Cluster(k, slices.Repeat([]int{0}, 201), set),
	} {
		if !isWaiting(got) {
			t.Errorf("cluster %d: %v", i, got)
		}
	}
	if len(Run(none, "@", set)) != 0 || len(Run(&known.Known{}, "@", set)) != 0 {
		t.Error("a nil Known")
	}
}

// P28.3
func TestWholeErrors(t *testing.T) {
	f := example(t)
	wrong := f
	wrong.Core.Version = 0
	grow := parse(t, "font a 1;lookup 0;rule | {1} | > 1 1;char 64 1 9;glyph 3;glyph 70;")
	for i, x := range []struct {
		f    api.Font
		text string
		set  api.Setting
		want api.Errno
	}{
		{wrong, "@", api.Setting{}, api.ErrVersion}, {f, strings.Repeat("@", 121), api.Setting{Size: 3}, api.ErrArg}, {f, "@", api.Setting{Size: 4, At: []int{0}}, api.ErrArg}, {f, strings.Repeat("@", 121), api.Setting{Size: 4}, api.ErrMany}, {grow, strings.Repeat("@", 101), api.Setting{Size: 4}, api.ErrMany}, {grow, strings.Repeat("@", 100), api.Setting{Size: 4}, api.OK},
	} {
		if l, e := Whole(x.f, x.text, x.set); e != x.want || e != api.OK && l != nil {
			t.Errorf("call %d: %v", i, e)
		}
	}
}

// P28.1: a glyph without room in the picture is left out, and those behind it are not.
func TestLeftOut(t *testing.T) {
	f := parse(t, "font a 1;char 64 1 9;glyph 3;glyph 128;contour 0,0 64,0 64,64 0,64;anchor 1 10,-20;glyph 0;contour 0,0 20,0 20,20 0,20;hang 1 10,10;glyph 0;")
	k := with(t, f, parts.Keys(f)...)
	set := api.Setting{Size: 32}
	one := Cluster(k, []int{1}, set).Map
	if got := Cluster(k, []int{1, 1}, set); !got.Known || !scan.Same(got.Map, one) {
		t.Error("the second square stands 64 pixels to the right", got)
	}
	mark := Cluster(k, []int{1, 2}, set).Map
	if got := Cluster(k, []int{1, 1, 1, 2}, set); !scan.Same(got.Map, one) {
		t.Error("the mark of the third square", got)
	}
	if got := Cluster(k, []int{1, 3, 2}, set); !scan.Same(got.Map, mark) || scan.Same(mark, one) || !scan.Get(mark, 5, -10) {
		t.Error("a mark", got)
	}
}

// randomFont returns a right font with 3 lookups, 8 glyphs, one axis and programs.
func randomFont(t *testing.T, r *rand.Rand) api.Font {
	set := func() string {
		a := r.Intn(5)
		return fmt.Sprintf("{%d,%d}", a, a+1+r.Intn(3))
	}
	s := "font a 1;axis w -9 0 9 -9=-64 0=0 9=64;region 0/64/64;region -64/-10/0;"
	for k := range 3 {
		s += fmt.Sprintf("lookup %d;", max(0, r.Intn(14)-4))
		for range r.Intn(4) {
			s += "rule "
			if r.Intn(3) == 0 {
				s += set() + " "
			}
			s += "| " + set() + " |"
			if r.Intn(3) == 0 {
				s += " " + set()
			}
			if r.Intn(3) == 0 && k < 2 {
				s += fmt.Sprintf(" call 0:%d;", k+1)
			} else {
				s += " >" + []string{"", fmt.Sprintf(" %d", r.Intn(8)), fmt.Sprintf(" %d %d", r.Intn(8), r.Intn(8))}[r.Intn(3)] + ";"
			}
		}
	}
	for k, code := range []int{64, 65, 66, 97, 98, 104, 105} {
		s += fmt.Sprintf("char %d %d 1;", code, 1+(k*(1+r.Intn(3)))%7)
	}
	point := func() string {
		return fmt.Sprintf(" %d,%d%s", r.Intn(120)-30, r.Intn(120)-30, []string{"", "", "~"}[r.Intn(3)])
	}
	move := func() string { return fmt.Sprintf(" %d,%d", r.Intn(40)-20, r.Intn(40)-20) }
	for range 8 {
		s += fmt.Sprintf("glyph %d;contour%s%s%s%s;anchor 1 %d,40;", r.Intn(90), point(), point(), point(), point(), r.Intn(40))
		last := " 0,0"
		if r.Intn(3) == 0 {
			s += "hang 1 5,7;"
			last = move()
		}
		for k := range 2 {
			if r.Intn(2) == 0 {
				s += fmt.Sprintf("delta %d 9%s%s%s%s%s%s;", k, move(), move(), move(), move(), move(), last)
			}
		}
		s += []string{"", "program gety 1 round sety 1;", "program axis 0 if push 64 setx 2 else size sety 0 end;"}[r.Intn(3)]
	}
	return parse(t, s)
}

// slowPicture joins what fit.Bits returns, glyph by glyph.
func slowPicture(f api.Font, glyphs []int, set api.Setting) (all api.Bitmap, pixels []api.Bitmap) {
	var l []api.Drawn
	for _, n := range glyphs {
		d, _ := fit.At(f.Glyphs[n], f.Core.Regions, set)
		l = append(l, d)
	}
	places := attach.Places(l)
	for i, d := range l {
		b, e := fit.Bits(d, places[i][0], places[i][1])
		if e == api.OK {
			pixels = append(pixels, b)
			if next, e := scan.Or(all, b); e == api.OK {
				all = next
			}
		}
	}
	return scan.Trim(all), pixels
}

// P28.2, P28.3, P28.4, P28.5
func TestWhatIsShownIsRight(t *testing.T) {
	r := rand.New(rand.NewSource(28))
	some := []byte{64, 65, 66, 97, 98, 104, 105, 240, 32}
	shown, waiting := 0, 0
	for range 400 {
		f := randomFont(t, r)
		s := make([]byte, 1+r.Intn(7))
		for i := range s {
			s[i] = some[r.Intn(len(some))]
		}
		text := string(s)
		set := api.Setting{Size: 4 + r.Intn(29), At: []int{r.Intn(129) - 64}, Features: r.Intn(1024)}
		whole, e := Whole(f, text, set)
		if e != api.OK || len(whole) != len(cluster.Split(text)) {
			t.Fatal(e)
		}
		items, _ := shape.Run(f, text, set.Features)
		for c, b := range whole {
			want, pixels := slowPicture(f, shape.Cluster(items, c), set)
			if !scan.Same(b, want) {
				t.Fatalf("the cluster %d of %v", c, s)
			}
			for y := b.Top; y < b.Top+b.Height; y++ {
				for x := b.Left; x < b.Left+b.Width; x++ {
					if scan.Get(b, x, y) && !slices.ContainsFunc(pixels, func(p api.Bitmap) bool { return scan.Get(p, x, y) }) {
						t.Fatalf("the pixel %d, %d of the cluster %d", x, y, c)
					}
				}
			}
		}
		keys := parts.Keys(f)
		r.Shuffle(len(keys), func(i, j int) { keys[i], keys[j] = keys[j], keys[i] })
		k := with(t, f)
		before := Run(k, text, set)
		for n := 0; n <= len(keys); n++ {
			now := Run(k, text, set)
			for c, x := range now {
				if x.Known && !scan.Same(x.Map, whole[c]) || !x.Known && !isWaiting(x) {
					t.Fatalf("the cluster %d of %v: %v, not %v", c, s, x, whole[c])
				}
				if before[c].Known && !x.Known || n == len(keys) && !x.Known {
					t.Fatalf("the cluster %d of %v waits with %d parts", c, s, n)
				}
				if x.Known {
					shown++
				} else {
					waiting++
				}
			}
			before = now
			if n < len(keys) {
				p, _ := patch.Make(f, keys[n], api.Key{})
				if e := k.Take(p); e != api.OK {
					t.Fatal(e)
				}
			}
		}
	}
	if shown < 2000 || waiting < 2000 {
		t.Error("too few", shown, waiting)
	}
}
