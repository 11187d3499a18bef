package whole

import (
	"math/rand"
	"slices"
	"strings"
	"testing"

	"abugida/api"
	"abugida/axes"
	"abugida/cluster"
	"abugida/display"
	"abugida/flow"
	"abugida/font"
	"abugida/known"
	"abugida/lines"
	"abugida/outline"
	"abugida/page"
	"abugida/panel"
	"abugida/parts"
	"abugida/patch"
	"abugida/picture"
	"abugida/relay"
	"abugida/scan"
	"abugida/sign"
	"abugida/source"
)

func twoFonts(t *testing.T, r *rand.Rand) []api.Font {
	return []api.Font{randomFont(t, r, "a", 1, []int{32, 64, 65, 97, 104}), randomFont(t, r, "b", 2, []int{64, 66, 104, 105})}
}

func randomParas(r *rand.Rand) (l []api.Para) {
	some := []byte{64, 65, 66, 104, 105, 240, 32, 97, 10, 33}
	for range 1 + r.Intn(3) {
		s := make([]byte, r.Intn(9))
		for i := range s {
			s[i] = some[r.Intn(len(some))]
		}
		l = append(l, api.Para{Text: string(s), Set: api.Setting{Size: 4 + r.Intn(9), At: []int{r.Intn(129) - 64}, Features: r.Intn(1024)}})
	}
	return l
}

func open(t *testing.T, d api.Doc, fonts []api.Font, bytes int) *display.Display {
	t.Helper()
	public, _ := sign.Public("s", 2)
	screen, e := display.New(d, public, bytes)
	if e != api.OK {
		t.Fatal(e)
	}
	for _, f := range fonts {
		if e := screen.Core(signed(f.Core)); e != api.OK {
			t.Fatal(e)
		}
	}
	return screen
}

// whole returns what the whole fonts show at each place.
func whole(t *testing.T, d api.Doc, fonts []api.Font) []api.Bitmap {
	t.Helper()
	var cores []api.Core
	for _, f := range fonts {
		cores = append(cores, f.Core)
	}
	var l []api.Bitmap
	for _, p := range d.Paras {
		of := map[int][]api.Bitmap{} // by the place at which a piece begins
		for _, piece := range page.Pieces(cores, p.Text) {
			if k := piece.Level; k >= 0 {
				b, e := picture.Whole(fonts[k], p.Text[piece.From:piece.To], flow.Setting(cores[k], p.Set))
				if e != api.OK {
					t.Fatal(e)
				}
				of[piece.From] = b
			}
		}
		fonts := flow.Fonts(cores, p.Text)
		var rest []api.Bitmap
		for k, c := range cluster.Split(p.Text) {
			if b, begins := of[c.From]; begins {
				rest = b
			}
			if fonts[k] < 0 {
				l = append(l, api.Bitmap{})
			} else {
				l = append(l, rest[0])
				rest = rest[1:]
			}
		}
	}
	return l
}

// T1, T2, T3, T4: whatever is lost, doubled, delayed and forged, in the end everything is shown as by the whole fonts,
// and nothing has moved.
func TestPatchesByBadRelays(t *testing.T) {
	r := rand.New(rand.NewSource(4))
	for range 40 {
		fonts := twoFonts(t, r)
		d := document(30, fonts, randomParas(r)...)
		screen := open(t, d, fonts, 1<<20)
		places := screen.Places()
		var script []api.Trouble
		for range 40 {
			script = append(script, api.Trouble{Lost: r.Intn(3) == 0, Copies: r.Intn(4), Delay: r.Intn(20)})
		}
		net := lines.New(3, script)
		helper := relay.New(2, 100000)
		for _, f := range fonts {
			for _, k := range parts.Keys(f) {
				p, _ := patch.Make(f, k, api.Key{})
				if r.Intn(4) == 0 && len(p.Body) > 0 {
					p.Body = p.Body[:len(p.Body)-1] + "\x7e"
				}
				helper.Keep(p)
			}
		}
		now := 0
		for round := 0; len(screen.Wants()) > 0; round++ {
			if round > 300 {
				t.Fatal("it wants for ever")
			}
			for k, f := range fonts {
				var keys []api.Key
				for _, o := range screen.Wants() {
					if o.Font == k {
						keys = append(keys, o.Key)
					}
				}
				// Without the server, what is forged would be wanted for ever.
				net.Send(now, api.Message{From: 0, To: 1 + r.Intn(2), Text: relay.Ask(f.Core.Name, f.Core.Version, keys)})
			}
			for {
				m, time, ok := net.Next()
				if !ok {
					break
				}
				now = max(now, time)
				switch m.To {
				case 0:
					l, _ := relay.Tell(m.Text)
					for _, p := range l {
						screen.Take(p)
					}
				case 1:
					net.Send(now, api.Message{From: 1, To: m.From, Text: relay.Told(answers(fonts, m.Text, r))})
				case 2:
					for _, answer := range helper.Take(m) {
						net.Send(now, answer)
					}
				}
				if !slices.Equal(screen.Places(), places) {
					t.Fatal("a place moves")
				}
			}
		}
		want := whole(t, d, fonts)
		for k, x := range screen.Shown() {
			if !x.Known || !scan.Same(x.Map, want[k]) {
				t.Fatalf("the cluster %d: %v, not %v", k, x, want[k])
			}
		}
		if text := screen.Copy(0, 999); len(places) > 0 && !strings.Contains(text, d.Paras[places[0].Para].Text) {
			t.Fatalf("%q is copied", text)
		}
	}
}

// answers returns the patches that a server has for a request, some of them as differences.
func answers(fonts []api.Font, text string, r *rand.Rand) (l []api.Patch) {
	name, _, keys, _ := relay.Asked(text)
	for _, f := range fonts {
		if f.Core.Name != name {
			continue
		}
		all := parts.Keys(f)
		for _, k := range keys {
			p, _ := patch.Make(f, k, api.Key{})
			if r.Intn(3) == 0 {
				p, _ = patch.Make(f, k, all[r.Intn(len(all))])
			}
			l = append(l, p)
		}
	}
	return l
}

// T4: which parts are there does not depend on the order of patches, nor on how often they come.
func TestOrderOfPatches(t *testing.T) {
	r := rand.New(rand.NewSource(5))
	for range 20 {
		f := twoFonts(t, r)[0]
		all := parts.Keys(f)
		for range 4 {
			k, _ := known.New(f.Core)
			var l []api.Patch
			for _, key := range all {
				plain, _ := patch.Make(f, key, api.Key{})
				by, _ := patch.Make(f, key, all[r.Intn(len(all))])
				l = append(l, plain, by, plain)
			}
			r.Shuffle(len(l), func(i, j int) { l[i], l[j] = l[j], l[i] })
			for _, p := range l {
				if e := k.Take(p); e != api.OK && e != api.ErrBase {
					t.Fatal(e)
				}
			}
			if !slices.Equal(k.Keys(), all) {
				t.Fatal(k.Keys())
			}
			for _, key := range all {
				if body, _ := parts.Body(f, key); func() bool { got, ok := k.Body(key); return !ok || got != body }() {
					t.Fatal(key)
				}
			}
		}
	}
}

// T6: a region that does not touch some ranges changes nothing there.
func TestRegionsThatDoNotTouch(t *testing.T) {
	r := rand.New(rand.NewSource(6))
	for range 200 {
		f := twoFonts(t, r)[0]
		low := r.Intn(129) - 64
		ranges := [][2]int{{low, low + r.Intn(65-low)}}
		at := []int{ranges[0][0] + r.Intn(ranges[0][1]-ranges[0][0]+1)}
		for _, g := range f.Glyphs {
			less := g
			less.Deltas = nil
			for _, d := range g.Deltas {
				if axes.Touches(f.Core.Regions[d.Region], ranges) {
					less.Deltas = append(less.Deltas, d)
				}
			}
			a, e1 := outline.At(g, f.Core.Regions, at)
			b, e2 := outline.At(less, f.Core.Regions, at)
			if e1 != api.OK || e2 != api.OK || !slices.Equal(a.Anchors, b.Anchors) || a.Advance != b.Advance || a.Hang != b.Hang || !slices.EqualFunc(a.Contours, b.Contours, func(x, y []api.Point) bool { return slices.Equal(x, y) }) {
				t.Fatalf("%v at %v", g, at)
			}
		}
	}
}

// T7: what is given up waits, or keeps its pixels; taken again, it is what it was.
func TestGivenUpAndTakenAgain(t *testing.T) {
	r := rand.New(rand.NewSource(7))
	for range 30 {
		fonts := twoFonts(t, r)
		d := document(30, fonts, randomParas(r)...)
		want := whole(t, d, fonts)
		screen := open(t, d, fonts, 150+r.Intn(600))
		for range 60 {
			wants := screen.Wants()
			if len(wants) == 0 || r.Intn(4) == 0 {
				f := r.Intn(2)
				keys := parts.Keys(fonts[f])
				screen.Drop(api.Owned{Font: f, Key: keys[r.Intn(len(keys))]})
			} else {
				o := wants[r.Intn(len(wants))]
				p, _ := patch.Make(fonts[o.Font], o.Key, api.Key{})
				if e := screen.Take(p); e != api.OK && e != api.ErrFull {
					t.Fatal(e)
				}
			}
			for k, x := range screen.Shown() {
				if x.Known && !scan.Same(x.Map, want[k]) {
					t.Fatalf("the cluster %d", k)
				}
			}
		}
	}
}

// T8: whenever the power fails, each pixel is that of the page before or of the next one.
func TestPower(t *testing.T) {
	r := rand.New(rand.NewSource(8))
	for range 200 {
		w, h := 1+r.Intn(64), 1+r.Intn(64)
		p := panel.New(w, h)
		old := p.Pixels()
		for range 10 {
			next := slices.Clone(old)
			for range r.Intn(6) {
				next[r.Intn(h)] = r.Uint64() >> (64 - w)
			}
			for attempt := 0; ; attempt++ {
				p.Fail(r.Intn(h))
				if attempt > 3 {
					p.Fail(-1)
				}
				failed := false
				for _, c := range panel.Plan(p.Pixels(), next, w, 3) {
					failed = failed || p.Write(c, panel.Cut(next, c)) != api.OK
				}
				for k, row := range p.Pixels() {
					if (row^old[k])&(row^next[k]) != 0 {
						t.Fatal("a pixel of neither page")
					}
				}
				if !failed {
					break
				}
			}
			if !slices.Equal(p.Pixels(), next) {
				t.Fatal("the page has not come")
			}
			old = next
		}
	}
}

// T12: a font that is written as a text, read, cut into parts and put together is the same font.
func TestFontsThatAreCutAndPutTogether(t *testing.T) {
	r := rand.New(rand.NewSource(12))
	for range 60 {
		for _, f := range twoFonts(t, r) {
			text, e := source.Text(f)
			if e != api.OK {
				t.Fatal(e)
			}
			read, n, e := source.Parse(text)
			if e != api.OK || n != 0 || !font.Same(read, f) {
				t.Fatal(n, e)
			}
			core, e := font.Decode(font.Encode(read.Core))
			if e != api.OK {
				t.Fatal(e)
			}
			together := api.Font{Core: core, Lookups: make([]api.Lookup, len(core.Heads)), Glyphs: make([]api.Glyph, core.Glyphs)}
			for _, k := range parts.Keys(read) {
				body, _ := parts.Body(read, k)
				p, e := parts.Read(k, body)
				if e != api.OK {
					t.Fatal(e)
				}
				switch k.Kind {
				case api.KindLookup:
					together.Lookups[k.N] = p.Lookup
				case api.KindGlyph:
					together.Glyphs[k.N] = p.Glyph
					together.Glyphs[k.N].Deltas = nil
				case api.KindDelta:
					together.Glyphs[k.N].Deltas = append(together.Glyphs[k.N].Deltas, p.Delta)
				}
			}
			if !font.Same(together, f) || parts.Root(together) != f.Core.Root {
				t.Fatal("another font")
			}
		}
	}
}
