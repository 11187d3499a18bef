package display

import (
	"cmp"
	"iter"
	"slices"

	"abugida/api"
	"abugida/atlas"
	"abugida/axes"
	"abugida/cluster"
	"abugida/flow"
	"abugida/known"
	"abugida/maybe"
	"abugida/page"
	"abugida/parts"
	"abugida/picture"
)

// A piece is shaped by itself.
type piece struct {
	para, first int // its paragraph, and its first cluster
	font        int
	known       *known.Known
	core        api.Core
	text        string
	set         api.Setting
}

// pieces yields the pieces of all paragraphs that have a font which is not revoked.
func (d *Display) pieces(cores []api.Core) iter.Seq[piece] {
	return func(yield func(piece) bool) {
		for k, p := range d.doc.Paras {
			for _, run := range page.Pieces(cores, p.Text) {
				font := run.Level
				if font < 0 || d.isRevoked(font) {
					continue
				}
				this := piece{
					para: k, first: cluster.At(p.Text, run.From), font: font, known: d.faces[font].known, core: cores[font],
					text: p.Text[run.From:run.To], set: flow.Setting(cores[font], p.Set),
				}
				if !yield(this) {
					return
				}
			}
		}
	}
}

// glyphsOf returns the glyphs of the items of a cluster.
func glyphsOf(items []api.Item, c int) []int {
	var l []int
	for _, i := range items {
		if i.Cluster == c {
			l = append(l, i.Glyph)
		}
	}
	return l
}

// certain yields the glyphs of each certain cluster of the piece, with its number in the paragraph.
func (p piece) certain() iter.Seq2[int, []int] {
	return func(yield func(int, []int) bool) {
		items, certain := maybe.Run(p.known, p.text, p.set.Features)
		for c, is := range certain {
			if is && !yield(p.first+c, glyphsOf(items, c)) {
				return
			}
		}
	}
}

// wants calls want for each part that the piece waits for.
func (p piece) wants(want func(key api.Key)) {
	for _, n := range maybe.Misses(p.known, p.text, p.set.Features) {
		want(api.Key{Kind: api.KindLookup, N: n})
	}
	for _, glyphs := range p.certain() {
		for _, n := range glyphs {
			p.wantsGlyph(n, want)
		}
	}
}

func (p piece) wantsGlyph(n int, want func(key api.Key)) {
	key := api.Key{Kind: api.KindGlyph, N: n}
	body, there := p.known.Body(key)
	if !there {
		want(key)
		return
	}
	part, _ := parts.Read(key, body)
	for _, named := range part.Glyph.Deltas {
		delta := api.Key{Kind: api.KindDelta, N: n, Region: named.Region}
		_, there := p.known.Body(delta)
		if !there && axes.Scalar(p.core.Regions[named.Region], p.set.At).Num != 0 {
			want(delta)
		}
	}
}

func compareOwned(a, b api.Owned) int {
	return cmp.Or(cmp.Compare(a.Font, b.Font), cmp.Compare(a.Key.Kind, b.Key.Kind), cmp.Compare(a.Key.N, b.Key.N), cmp.Compare(a.Key.Region, b.Key.Region))
}

// wantedCores returns the fonts that have no core, but for those that are revoked.
func (d *Display) wantedCores() []api.Owned {
	var l []api.Owned
	for k, f := range d.faces {
		if f.known == nil && !d.isRevoked(k) {
			l = append(l, api.Owned{Font: k})
		}
	}
	return l
}

// Wants returns the keys of all parts that the display waits for.
func (d *Display) Wants() []api.Owned {
	if d.isZero() {
		return nil
	}
	cores, ok := d.cores()
	if !ok {
		return d.wantedCores()
	}
	wanted := map[api.Owned]bool{}
	for p := range d.pieces(cores) {
		p.wants(func(key api.Key) { wanted[api.Owned{Font: p.font, Key: key}] = true })
	}
	var l []api.Owned
	for o := range wanted {
		l = append(l, o)
	}
	slices.SortFunc(l, compareOwned)
	return l
}

// A spot is a cluster of a paragraph.
type spot struct{ para, cluster int }

// show returns what is shown of the glyphs of a cluster, from the atlas if it is there.
func (d *Display) show(p piece, glyphs []int) api.Shown {
	name := atlas.Name(p.core.Name, p.core.Version, glyphs, p.set)
	if b, there := d.atlas.Get(name); there {
		return api.Shown{Known: true, Map: b}
	}
	shown := picture.Cluster(p.known, glyphs, p.set)
	if shown.Known {
		d.atlas.Put(name, shown.Map)
	}
	return shown
}

// Shown returns what is shown at each place.
func (d *Display) Shown() []api.Shown {
	cores, ok := d.cores()
	if !ok {
		return nil
	}
	shown := map[spot]api.Shown{}
	for p := range d.pieces(cores) {
		for c, glyphs := range p.certain() {
			shown[spot{p.para, c}] = d.show(p, glyphs)
		}
	}
	var l []api.Shown
	for _, p := range page.Places(d.doc, cores) {
		if p.Font < 0 {
			l = append(l, api.Shown{Known: true})
		} else {
			l = append(l, shown[spot{p.Para, p.Cluster}])
		}
	}
	return l
}
