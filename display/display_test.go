package display

import (
	"fmt"
	"math/rand"
	"reflect"
	"slices"
	"strings"
	"testing"

	"abugida/api"
	"abugida/closure"
	"abugida/cluster"
	"abugida/flow"
	"abugida/font"
	"abugida/page"
	"abugida/parts"
	"abugida/patch"
	"abugida/picture"
	"abugida/scan"
	"abugida/sets"
	"abugida/sign"
	"abugida/source"
	"abugida/wire"
)

func parse(t *testing.T, s string) api.Font {
	t.Helper()
	f, n, e := source.Parse(strings.ReplaceAll(s, ";", "\n"))
	if e != api.OK {
		t.Fatal(n, e, s)
	}
	return parts.Rooted(f)
}

const keys = 4

func public(t *testing.T) string {
	t.Helper()
	s, e := sign.Public("s", keys)
	if e != api.OK {
		t.Fatal(e)
	}
	return s
}

func signature(t *testing.T, message string) string {
	t.Helper()
	s, e := sign.Sign("s", keys, 1, message)
	if e != api.OK {
		t.Fatal(e)
	}
	return s
}

func signed(t *testing.T, c api.Core) api.Signed {
	return api.Signed{Core: c, Sign: signature(t, wire.Text("core")+wire.Text(font.Encode(c)))}
}

func notice(t *testing.T, name string, newest int, revoked ...int) api.Notice {
	return api.Notice{Font: name, Newest: newest, Revoked: revoked, Sign: signature(t, wire.Text("note")+wire.Text(name)+wire.Int(newest)+wire.Ints(revoked))}
}

func document(width int, fonts []api.Font, paras ...api.Para) api.Doc {
	d := api.Doc{Width: width, Paras: paras}
	for _, f := range fonts {
		d.Fonts = append(d.Fonts, api.Pin{Name: f.Core.Name, Version: f.Core.Version, Root: f.Core.Root})
	}
	return d
}

func plain(t *testing.T, f api.Font, k api.Key) api.Patch {
	t.Helper()
	p, e := patch.Make(f, k, api.Key{})
	if e != api.OK {
		t.Fatal(k, e)
	}
	return p
}

func key(kind, n, region int) api.Key { return api.Key{Kind: kind, N: n, Region: region} }

func owned(font, kind, n, region int) api.Owned {
	return api.Owned{Font: font, Key: key(kind, n, region)}
}

func example(t *testing.T) (*Display, api.Font) {
	t.Helper()
	f := parse(t, "font f 1;char 64 1 64;glyph 0;glyph 64;contour 0,0 64,0 64,64 0,64;")
	d, e := New(document(40, []api.Font{f}, api.Para{Text: "@A", Set: api.Setting{Size: 4}}), public(t), 4000)
	if e != api.OK {
		t.Fatal(e)
	}
	return d, f
}

// text writes what is shown: w for waiting, . for no pixels, # for pixels.
func text(l []api.Shown) string {
	s := ""
	for _, x := range l {
		switch {
		case !x.Known && scan.Same(x.Map, api.Bitmap{}):
			s += "w"
		case x.Known && scan.Same(x.Map, api.Bitmap{}):
			s += "."
		case x.Known:
			s += "#"
		default:
			s += "?"
		}
	}
	return s
}

// P38.2 to P38.9
func TestExample(t *testing.T) {
	d, f := example(t)
	if got := d.Wants(); !slices.Equal(got, []api.Owned{{}}) || d.Places() != nil || d.Shown() != nil || d.Copy(0, 9) != "" {
		t.Error("without a core", got)
	}
	wrong := signed(t, f.Core)
	wrong.Sign = signature(t, "another message")
	if d.Core(wrong) != api.ErrSign || d.Core(signed(t, f.Core)) != api.OK || d.Core(signed(t, f.Core)) != api.OK {
		t.Error("Core")
	}
	if got := d.Places(); !slices.Equal(got, []api.Place{{Font: 0, Width: 4}, {Cluster: 1, Font: -1, X: 4, Width: 2}}) {
		t.Error(got)
	}
	if got := d.Shown(); text(got) != "w." || !slices.Equal(d.Wants(), []api.Owned{owned(0, 2, 1, 0)}) {
		t.Error(got, d.Wants())
	}
	if d.Copy(0, 2) != "@A" || d.Copy(1, 9) != "A" {
		t.Error("Copy")
	}
	p := plain(t, f, key(2, 1, 0))
	if e := d.Take(p); e != api.OK {
		t.Error(e)
	}
	square := api.Bitmap{Width: 4, Height: 4, Rows: []uint64{15, 15, 15, 15}}
	if got := d.Shown(); text(got) != "#." || !scan.Same(got[0].Map, square) || len(d.Wants()) > 0 {
		t.Error(got, d.Wants())
	} else if got[0].Map.Rows[0] = 0; !scan.Same(d.Shown()[0].Map, square) {
		t.Error("the pixels are shared")
	}
	if d.Drop(owned(0, 2, 1, 0)) != api.OK || d.Drop(owned(0, 2, 1, 0)) != api.ErrNone || d.Drop(owned(1, 2, 1, 0)) != api.ErrNone || d.Drop(owned(-1, 2, 1, 0)) != api.ErrNone {
		t.Error("Drop")
	}
	if got := d.Shown(); text(got) != "#." || !scan.Same(got[0].Map, square) || !slices.Equal(d.Wants(), []api.Owned{owned(0, 2, 1, 0)}) {
		t.Error("from the atlas", got, d.Wants())
	}
	places := d.Places()
	if e := d.Note(notice(t, "f", 2, 1)); e != api.OK {
		t.Error(e)
	}
	if got := d.Shown(); text(got) != "w." || d.Take(p) != api.ErrRevoked || len(d.Wants()) > 0 || !slices.Equal(d.Places(), places) || d.Core(signed(t, f.Core)) != api.ErrRevoked {
		t.Error("revoked", got, d.Wants())
	}
	for _, x := range []struct {
		font, version int
		root          string
		want          api.Errno
	}{{0, 1, "12345678", api.ErrVersion}, {0, 0, "", api.ErrVersion}, {0, 1000, "12345678", api.ErrVersion}, {1, 2, "12345678", api.ErrArg}, {-1, 2, "12345678", api.ErrArg}, {0, 2, "1234567", api.ErrRoot}, {0, 2, "12345678", api.OK}, {0, 2, "12345678", api.ErrVersion}, {0, 999, "12345678", api.OK}, {0, 1000, "12345678", api.ErrVersion}} {
		if e := d.Move(x.font, x.version, x.root); e != x.want {
			t.Errorf("Move of %v: %v", x, e)
		}
	}
	if got := d.Wants(); !slices.Equal(got, []api.Owned{{}}) || d.Places() != nil || d.Shown() != nil {
		t.Error("moved", got)
	}
	if d.Core(signed(t, f.Core)) != api.ErrVersion || d.Take(p) != api.ErrFont {
		t.Error("the core of the version before")
	}
}

// P38.1
func TestNew(t *testing.T) {
	_, f := example(t)
	good := document(40, []api.Font{f}, api.Para{Text: "@", Set: api.Setting{Size: 4}})
	for k, x := range []struct {
		change func(d *api.Doc)
		public string
		bytes  int
		want   api.Errno
	}{
		{func(d *api.Doc) {}, "12345678", 0, api.OK}, {func(d *api.Doc) { d.Width = 0 }, "", -1, api.ErrRange}, {func(d *api.Doc) { d.Fonts = nil }, "12345678", 9, api.ErrMany}, {func(d *api.Doc) { d.Paras[0].Set.Size = 3 }, "12345678", 9, api.ErrRange},
		{func(d *api.Doc) {}, "1234567", 9, api.ErrArg}, {func(d *api.Doc) {}, "", 9, api.ErrArg}, {func(d *api.Doc) {}, "12345678", -1, api.ErrArg}, {func(d *api.Doc) {}, "12345678", 1<<30 + 1, api.ErrArg}, {func(d *api.Doc) {}, "12345678", 1 << 30, api.OK},
	} {
		doc := cloneDoc(good)
		x.change(&doc)
		if d, e := New(doc, x.public, x.bytes); e != x.want || (d != nil) != (e == api.OK) {
			t.Errorf("document %d: %v", k, e)
		}
	}
}

// P38.2, P38.3, P38.14
func TestCoresAndNotices(t *testing.T) {
	d, f := example(t)
	change := func(by func(c *api.Core)) api.Signed {
		c := f.Core
		by(&c)
		return signed(t, c)
	}
	for k, x := range []struct {
		s    api.Signed
		want api.Errno
	}{
		{change(func(c *api.Core) { c.Name = "g"; c.Version = 2 }), api.ErrFont}, {change(func(c *api.Core) { c.Version = 2; c.Root = "" }), api.ErrVersion}, {change(func(c *api.Core) { c.Root = "12345678" }), api.ErrRoot}, {api.Signed{Core: f.Core}, api.ErrSign},
		{change(func(c *api.Core) { c.Glyphs = 0 }), api.ErrMany}, {api.Signed{Core: api.Core{Name: "f", Version: 2}}, api.ErrVersion}, {change(func(c *api.Core) { c.Chars = []api.Char{{Code: 64, Glyph: 2}} }), api.ErrGlyph},
	} {
		if e := d.Core(x.s); e != x.want || d.Places() != nil {
			t.Errorf("core %d: %v", k, e)
		}
	}
	if e := d.Note(notice(t, "f", 5, 9, 7, 9)); e != api.OK {
		t.Error(e)
	}
	forged := notice(t, "f", 6, 1)
	forged.Newest = 7
	unsigned := notice(t, "f", 6, 1)
	unsigned.Sign = ""
	for k, x := range []struct {
		n    api.Notice
		want api.Errno
	}{{notice(t, "g", 6, 1), api.ErrFont}, {forged, api.ErrSign}, {unsigned, api.ErrSign}, {notice(t, "f", 4, 1), api.ErrVersion}, {notice(t, "f", 5), api.OK}, {notice(t, "f", -1, 1), api.ErrVersion}} {
		if e := d.Note(x.n); e != x.want {
			t.Errorf("notice %d: %v", k, e)
		}
	}
	if e := d.Core(signed(t, f.Core)); e != api.OK {
		t.Error("the font is not revoked", e)
	}
	if d.Move(0, 7, "12345678") != api.ErrRevoked || d.Move(0, 9, "12345678") != api.ErrRevoked || d.Move(0, 8, "12345678") != api.OK {
		t.Error("Move to a revoked version")
	}
	if e := d.Note(notice(t, "f", 5, 8)); e != api.OK || len(d.Wants()) > 0 || d.Places() != nil {
		t.Error("a revoked font without a core", e, d.Wants())
	}
}

// P38.4, P38.5
func TestMemory(t *testing.T) {
	f := parse(t, "font f 1;char 64 1 64;char 65 2 9;glyph 0;glyph 64;contour 0,0 64,0 64,64 0,64;glyph 64;contour 0,0 64,0 64,64 0,64;")
	size := len(plain(t, f, key(2, 1, 0)).Body)
	open := func(bytes int) *Display {
		d, e := New(document(40, []api.Font{f}, api.Para{Text: "@A", Set: api.Setting{Size: 4}}), public(t), bytes)
		if e != api.OK || d.Take(plain(t, f, key(2, 1, 0))) != api.ErrFont || d.Core(signed(t, f.Core)) != api.OK {
			t.Fatal(e)
		}
		return d
	}
	small := open(size - 1)
	if small.Take(plain(t, f, key(2, 1, 0))) != api.ErrFull || text(small.Shown()) != "ww" || small.Drop(owned(0, 2, 1, 0)) != api.ErrNone {
		t.Error("no room")
	}
	d := open(2*size - 1)
	if d.Take(plain(t, f, key(2, 1, 0))) != api.OK || d.Take(plain(t, f, key(2, 2, 0))) != api.OK || !slices.Equal(d.Wants(), []api.Owned{owned(0, 2, 1, 0)}) || text(d.Shown()) != "w#" {
		t.Error("the first one is given up", d.Wants())
	}
	if d.Take(plain(t, f, key(2, 1, 0))) != api.OK || !slices.Equal(d.Wants(), []api.Owned{owned(0, 2, 2, 0)}) || text(d.Shown()) != "##" {
		t.Error("the second one keeps its pixels", d.Wants())
	}
	both := open(2 * size)
	if both.Take(plain(t, f, key(2, 1, 0))) != api.OK || both.Take(plain(t, f, key(2, 2, 0))) != api.OK || both.Take(plain(t, f, key(2, 1, 0))) != api.OK || both.Take(plain(t, f, key(2, 0, 0))) != api.OK || !slices.Equal(both.Wants(), []api.Owned{owned(0, 2, 2, 0)}) {
		t.Error("the oldest one is given up", both.Wants())
	}
	if both.Drop(owned(0, 2, 1, 0)) != api.OK || both.Take(plain(t, f, key(2, 2, 0))) != api.OK || !slices.Equal(both.Wants(), []api.Owned{owned(0, 2, 1, 0)}) {
		t.Error("what was dropped has no size any more", both.Wants())
	}
	bent := plain(t, f, key(2, 1, 0))
	bent.Body += "x"
	later := plain(t, f, key(2, 1, 0))
	later.Version = 2
	other := plain(t, f, key(2, 1, 0))
	other.Font = "g"
	by, _ := patch.Make(f, key(2, 2, 0), key(2, 1, 0))
	for k, p := range []api.Patch{bent, later, other, by} {
		if e := both.Take(p); e != []api.Errno{api.ErrProof, api.ErrVersion, api.ErrFont, api.ErrBase}[k] {
			t.Errorf("patch %d: %v", k, e)
		}
	}
	if e := both.Note(notice(t, "f", 1, 1)); e != api.OK || both.Drop(owned(0, 2, 2, 0)) != api.ErrNone {
		t.Error("a revoked font has parts", e)
	}
}

// P38.6
func TestSet(t *testing.T) {
	d, f := example(t)
	d.Core(signed(t, f.Core))
	for k, x := range []struct {
		para int
		set  api.Setting
		want api.Errno
	}{{1, api.Setting{Size: 8}, api.ErrArg}, {-1, api.Setting{Size: 8}, api.ErrArg}, {0, api.Setting{Size: 3}, api.ErrRange}, {0, api.Setting{Size: 8, At: []int{65}}, api.ErrAxis}, {0, api.Setting{Size: 8, At: []int{64}, Features: 7}, api.OK}} {
		if e := d.Set(x.para, x.set); e != x.want {
			t.Errorf("setting %d: %v", k, e)
		}
		if width := d.Places()[0].Width; (width == 8) != (x.want == api.OK) {
			t.Errorf("setting %d: width %d", k, width)
		}
	}
	at := []int{5}
	if e := d.Set(0, api.Setting{Size: 4, At: at}); e != api.OK {
		t.Error(e)
	}
	if at[0] = 99; d.Set(0, api.Setting{Size: 4}) != api.OK || d.Places()[0].Width != 4 {
		t.Error("the setting is shared")
	}
}

// P38.7
func TestWants(t *testing.T) {
	f := parse(t, "font f 1;axis w -9 0 9 -9=-64 0=0 9=64;region 0/64/64;region -64/-10/0;lookup 0;rule | {1} | > 2;lookup 5;rule | {3} | > 4;char 64 1 9;char 65 3 9;char 66 5 9;"+
		"glyph 1;glyph 1;glyph 1;hang 1 0,0;delta 0 0 1,1;delta 1 0 1,1;glyph 1;hang 1 0,0;delta 0 0 1,1;glyph 1;glyph 1;")
	g := parse(t, "font g 1;char 67 0 9;glyph 1;")
	d, e := New(document(99, []api.Font{f, g}, api.Para{Text: "@A C", Set: api.Setting{Size: 4, At: []int{-20}}}, api.Para{Text: "AB", Set: api.Setting{Size: 5, Features: 32}}), public(t), 4000)
	if e != api.OK {
		t.Fatal(e)
	}
	wants := func(want ...api.Owned) {
		t.Helper()
		if got := d.Wants(); !slices.Equal(got, want) {
			t.Errorf("%v, not %v", got, want)
		}
	}
	wants(api.Owned{Font: 0}, api.Owned{Font: 1})
	d.Core(signed(t, g.Core))
	wants(api.Owned{Font: 0})
	d.Core(signed(t, f.Core))
	wants(owned(0, 1, 0, 0), owned(0, 1, 1, 0), owned(0, 2, 3, 0), owned(0, 2, 5, 0), owned(1, 2, 0, 0))
	d.Take(plain(t, f, key(2, 3, 0)))
	wants(owned(0, 1, 0, 0), owned(0, 1, 1, 0), owned(0, 2, 5, 0), owned(1, 2, 0, 0))
	d.Take(plain(t, f, key(1, 0, 0)))
	wants(owned(0, 1, 1, 0), owned(0, 2, 2, 0), owned(0, 2, 5, 0), owned(1, 2, 0, 0))
	d.Take(plain(t, f, key(2, 2, 0)))
	wants(owned(0, 1, 1, 0), owned(0, 2, 5, 0), owned(0, 3, 2, 1), owned(1, 2, 0, 0))
	d.Set(0, api.Setting{Size: 4, At: []int{20}})
	wants(owned(0, 1, 1, 0), owned(0, 2, 5, 0), owned(0, 3, 2, 0), owned(0, 3, 3, 0), owned(1, 2, 0, 0))
	d.Take(plain(t, f, key(1, 1, 0)))
	wants(owned(0, 2, 4, 0), owned(0, 2, 5, 0), owned(0, 3, 2, 0), owned(0, 3, 3, 0), owned(1, 2, 0, 0))
	d.Note(notice(t, "f", 1, 1))
	wants(owned(1, 2, 0, 0))
	d.Note(notice(t, "g", 1, 1))
	wants()
	d.Move(0, 2, "12345678")
	wants(api.Owned{Font: 0})
	d.Note(notice(t, "f", 1, 2))
	wants()
}

// P38.10
func TestNil(t *testing.T) {
	_, f := example(t)
	var none *Display
	for _, d := range []*Display{none, {}} {
		if d.Core(signed(t, f.Core)) != api.ErrArg || d.Note(notice(t, "f", 1)) != api.ErrArg || d.Take(plain(t, f, key(2, 0, 0))) != api.ErrArg || d.Drop(api.Owned{}) != api.ErrArg || d.Set(0, api.Setting{Size: 4}) != api.ErrArg || d.Move(0, 2, "12345678") != api.ErrArg {
			t.Error("calls of a zero Display")
		}
		if d.Wants() != nil || d.Places() != nil || d.Shown() != nil || d.Copy(0, 1) != "" {
			t.Error("a zero Display shows something")
		}
	}
}

// randomFont returns a right font with 3 lookups, 7 glyphs, one axis and programs.
func randomFont(t *testing.T, r *rand.Rand, name string, version int, codes []int) api.Font {
	set := func() string {
		a := r.Intn(4)
		return fmt.Sprintf("{%d,%d}", a, a+1+r.Intn(3))
	}
	s := fmt.Sprintf("font %s %d;axis w -9 0 9 -9=-64 0=0 9=64;region 0/64/64;region -64/-10/0;", name, version)
	for k := range 3 {
		s += fmt.Sprintf("lookup %d;", max(0, r.Intn(14)-4))
		for range r.Intn(3) {
			s += "rule | " + set() + " |"
			if r.Intn(3) == 0 {
				s += " " + set()
			}
			if r.Intn(3) == 0 && k < 2 {
				s += fmt.Sprintf(" call 0:%d;", k+1)
			} else {
				s += " >" + []string{"", fmt.Sprintf(" %d", r.Intn(7)), fmt.Sprintf(" %d %d", r.Intn(7), r.Intn(7))}[r.Intn(3)] + ";"
			}
		}
	}
	for k, code := range codes {
		s += fmt.Sprintf("char %d %d 30;", code, (k*(1+r.Intn(3)))%7)
	}
	point := func() string { return fmt.Sprintf(" %d,%d", r.Intn(120)-30, r.Intn(120)-30) }
	move := func() string { return fmt.Sprintf(" %d,%d", r.Intn(40)-20, r.Intn(40)-20) }
	for range 7 {
		s += fmt.Sprintf("glyph %d;contour%s%s%s%s;", r.Intn(90), point(), point(), point(), point())
		for k := range 2 {
			if r.Intn(2) == 0 {
				s += fmt.Sprintf("delta %d 9%s%s%s%s 0,0;", k, move(), move(), move(), move())
			}
		}
	}
	return parse(t, s)
}

// A scene is a display with the fonts that it should show, and those of further versions.
type scene struct {
	d        *Display
	doc      api.Doc
	fonts    []api.Font
	versions [2][3]api.Font
	moved    [2]int
	revoked  [2][]int
}

func newScene(t *testing.T, r *rand.Rand, bytes int) *scene {
	s := &scene{}
	codes := [2][]int{{32, 64, 65, 97, 104}, {64, 66, 104, 105}}
	for k, name := range []string{"a", "b"} {
		for v := range 3 {
			s.versions[k][v] = randomFont(t, r, name, v+1, codes[k])
		}
		s.fonts = append(s.fonts, s.versions[k][0])
	}
	some := []byte{64, 65, 66, 104, 105, 240, 32, 97, 10}
	var paras []api.Para
	for range 1 + r.Intn(2) {
		b := make([]byte, r.Intn(9))
		for i := range b {
			b[i] = some[r.Intn(len(some))]
		}
		paras = append(paras, api.Para{Text: string(b), Set: randomSetting(r)})
	}
	s.doc = document(30, s.fonts, paras...)
	d, e := New(s.doc, public(t), bytes)
	if e != api.OK {
		t.Fatal(e)
	}
	s.d = d
	return s
}

func randomSetting(r *rand.Rand) api.Setting {
	return api.Setting{Size: 4 + r.Intn(9), At: []int{r.Intn(129) - 64}, Features: r.Intn(1024)}
}

func (s *scene) cores() (l []api.Core) {
	for _, f := range s.fonts {
		l = append(l, f.Core)
	}
	return l
}

// check compares what is shown with what the whole fonts show.
func (s *scene) check(t *testing.T) (shown, waiting int) {
	t.Helper()
	all := s.d.Shown()
	if all == nil {
		return 0, 0
	}
	if !slices.Equal(s.d.Places(), page.Places(s.doc, s.cores())) || s.d.Copy(1, 5) != page.Copy(s.doc, s.cores(), 1, 5) || len(all) != len(s.d.Places()) {
		t.Fatal("places")
	}
	i := 0
	for _, p := range s.doc.Paras {
		fonts := flow.Fonts(s.cores(), p.Text)
		first := i
		for k := range fonts {
			if fonts[k] < 0 && text(all[i:i+1]) != "." {
				t.Fatal("a cluster without a font", all[i])
			}
			i++
		}
		for _, piece := range page.Pieces(s.cores(), p.Text) {
			k := piece.Level
			if k < 0 {
				continue
			}
			whole, e := picture.Whole(s.fonts[k], p.Text[piece.From:piece.To], flow.Setting(s.fonts[k].Core, p.Set))
			if e != api.OK {
				t.Fatal(e)
			}
			for c, b := range whole {
				x := all[first+cluster.At(p.Text, piece.From)+c]
				if x.Known && !scan.Same(x.Map, b) || !x.Known && text([]api.Shown{x}) != "w" || x.Known && slices.Contains(s.revoked[k], s.fonts[k].Core.Version) {
					t.Fatalf("the cluster %d of %q: %v, not %v", c, p.Text, x, b)
				}
				if x.Known {
					shown++
				} else {
					waiting++
				}
			}
		}
	}
	return shown, waiting
}

// checkWants looks whether what is wanted is needed.
func (s *scene) checkWants(t *testing.T) []api.Owned {
	t.Helper()
	wants := s.d.Wants()
	var need []api.Owned
	for _, p := range s.doc.Paras {
		for _, piece := range page.Pieces(s.cores(), p.Text) {
			if k := piece.Level; k >= 0 {
				set := flow.Setting(s.fonts[k].Core, p.Set)
				q := api.Request{Features: set.Features, Sizes: [2]int{set.Size, set.Size}, Axes: [][2]int{{set.At[0], set.At[0]}}}
				for _, c := range []byte(p.Text[piece.From:piece.To]) {
					q.Chars = append(q.Chars, int(c))
				}
				q.Chars = sets.Norm(q.Chars)
				for _, key := range closure.Need(s.fonts[k], q) {
					need = append(need, api.Owned{Font: k, Key: key})
				}
			}
		}
	}
	for _, o := range wants {
		if o.Key != (api.Key{}) && !slices.Contains(need, o) {
			t.Fatalf("%v is wanted, and not needed", o)
		}
	}
	if !slices.IsSortedFunc(wants, compareOwned) {
		t.Fatal("the order of", wants)
	}
	return wants
}

// step does something at random.
func (s *scene) step(t *testing.T, r *rand.Rand) {
	k := r.Intn(2)
	f := s.versions[k][s.moved[k]]
	switch n := r.Intn(24); {
	case n < 2:
		s.d.Core(signed(t, f.Core))
	case n < 3:
		s.d.Core(signed(t, s.versions[k][r.Intn(3)].Core))
	case n < 12:
		l := parts.Keys(f)
		s.d.Take(plain(t, f, l[r.Intn(len(l))]))
	case n < 14:
		l := parts.Keys(f)
		p, _ := patch.Make(f, l[r.Intn(len(l))], l[r.Intn(len(l))])
		s.d.Take(p)
	case n < 16:
		other := s.versions[k][r.Intn(3)]
		l := parts.Keys(other)
		p := plain(t, other, l[r.Intn(len(l))])
		if r.Intn(2) == 0 {
			p.Version = f.Core.Version
		}
		s.d.Take(p)
	case n < 18:
		l := parts.Keys(f)
		s.d.Drop(api.Owned{Font: k, Key: l[r.Intn(len(l))]})
	case n < 20:
		set := randomSetting(r)
		i := r.Intn(len(s.doc.Paras))
		if s.d.Set(i, set) != api.OK {
			t.Fatal("Set")
		}
		s.doc.Paras[i].Set = set
	case n < 21 && r.Intn(4) == 0:
		v := 1 + r.Intn(3)
		if s.d.Note(notice(t, f.Core.Name, 1, v)) != api.OK {
			t.Fatal("Note")
		}
		s.revoked[k] = append(s.revoked[k], v)
	case n < 22 && s.moved[k] < 2 && r.Intn(3) == 0:
		next := s.versions[k][s.moved[k]+1]
		if s.d.Move(k, next.Core.Version, next.Core.Root) == api.OK {
			s.moved[k]++
			s.fonts[k] = next
			s.doc.Fonts[k].Version, s.doc.Fonts[k].Root = next.Core.Version, next.Core.Root
		}
	}
}

// P38.11, P38.12, P38.13, P38.14
func TestDisplays(t *testing.T) {
	r := rand.New(rand.NewSource(38))
	shown, waiting := 0, 0
	for range 80 {
		s := newScene(t, r, 200+r.Intn(2000))
		for range 60 {
			s.step(t, r)
			a, b := s.check(t)
			shown, waiting = shown+a, waiting+b
			s.checkWants(t)
		}
	}
	if shown < 1000 || waiting < 1000 {
		t.Error("too few", shown, waiting)
	}
}

// P38.13
func TestNothingWaitsIfNothingIsWanted(t *testing.T) {
	r := rand.New(rand.NewSource(39))
	for range 80 {
		s := newScene(t, r, 1<<20)
		for _, f := range s.fonts {
			if e := s.d.Core(signed(t, f.Core)); e != api.OK {
				t.Fatal(e)
			}
		}
		for rounds := 0; ; rounds++ {
			wants := s.checkWants(t)
			_, waiting := s.check(t)
			if len(wants) == 0 {
				if waiting > 0 {
					t.Fatal("something waits")
				}
				break
			}
			if rounds > 30 {
				t.Fatal("it wants for ever")
			}
			for _, o := range wants {
				if e := s.d.Take(plain(t, s.fonts[o.Font], o.Key)); e != api.OK {
					t.Fatal(o, e)
				}
			}
		}
	}
}

// P38.12: places stay, whatever comes and goes.
func TestPlacesStay(t *testing.T) {
	r := rand.New(rand.NewSource(40))
	for range 20 {
		s := newScene(t, r, 900)
		for _, f := range s.fonts {
			s.d.Core(signed(t, f.Core))
		}
		before := s.d.Places()
		for range 60 {
			k := r.Intn(2)
			l := parts.Keys(s.fonts[k])
			o := api.Owned{Font: k, Key: l[r.Intn(len(l))]}
			switch r.Intn(8) {
			case 0:
				s.d.Drop(o)
			case 1:
				s.d.Note(notice(t, s.fonts[k].Core.Name, 1, r.Intn(20)))
			default:
				s.d.Take(plain(t, s.fonts[k], o.Key))
			}
			if !reflect.DeepEqual(s.d.Places(), before) {
				t.Fatal("a place moves")
			}
		}
	}
}
