package script

import (
	"strconv"
	"strings"

	"abugida/api"
	"abugida/cluster"
	"abugida/flow"
	"abugida/page"
	"abugida/patch"
	"abugida/picture"
	"abugida/scan"
)

// send makes a patch of the font of a slot, changes it, and lets the display take it.
func (p *player) send(slot int, key, base api.Key, change func(*api.Patch)) {
	f := p.font(slot)
	need(p.display != nil)
	one, e := patch.Make(f, key, base)
	if e == api.OK {
		change(&one)
		e = p.display.Take(one)
	}
	p.report(e)
}

func unchanged(*api.Patch) {}

func (p *player) patch(a *arguments) {
	slot, key := a.number(), a.key()
	a.end()
	p.send(slot, key, api.Key{}, unchanged)
}

func (p *player) base(a *arguments) {
	slot, key, base := a.number(), a.key(), a.key()
	a.end()
	p.send(slot, key, base, unchanged)
}

func (p *player) bent(a *arguments) {
	slot, key, at := a.number(), a.key(), a.number()
	a.end()
	p.send(slot, key, api.Key{}, func(one *api.Patch) {
		if n := len(one.Body); n > 0 {
			bytes := []byte(one.Body)
			bytes[(at%n+n)%n]++
			one.Body = string(bytes)
		}
	})
}

func (p *player) drop(a *arguments) {
	o := api.Owned{Font: a.number(), Key: a.key()}
	a.end()
	need(p.display != nil)
	p.report(p.display.Drop(o))
}

func (p *player) set(a *arguments) {
	para, set := a.number(), a.setting()
	a.end()
	need(p.display != nil)
	e := p.display.Set(para, set)
	if e == api.OK {
		p.doc.Paras[para].Set = set
	}
	p.report(e)
}

func (p *player) move(a *arguments) {
	n, slot := a.number(), a.number()
	a.end()
	c := p.font(slot).Core
	need(p.display != nil)
	e := p.display.Move(n, c.Version, c.Root)
	if e == api.OK {
		p.doc.Fonts[n] = pinOf(p.doc.Fonts[n].Name, c)
		p.sources[n] = nil
	}
	p.report(e)
}

// none prints that there is nothing, if this is so.
func (p *player) none(many int) {
	if many == 0 {
		p.printLine("none")
	}
}

func (p *player) wants(a *arguments) {
	a.end()
	need(p.display != nil)
	l := p.display.Wants()
	for _, o := range l {
		p.printLine("want", o.Font, o.Key.Kind, o.Key.N, o.Key.Region)
	}
	p.none(len(l))
}

// with returns a word and a number behind it.
func with(word string, n int) string { return word + " " + strconv.Itoa(n) }

func (p *player) places(a *arguments) {
	a.end()
	need(p.display != nil)
	l := p.display.Places()
	for _, x := range l {
		p.printLine(strings.Join([]string{strconv.Itoa(x.Para), strconv.Itoa(x.Cluster), with("font", x.Font), with("line", x.Line), with("at", x.X), with("width", x.Width)}, " "))
	}
	p.none(len(l))
}

func row(bits uint64) string { return strconv.FormatUint(bits, 16) }

// rows writes rows with commas between them.
func rows(l []uint64) string {
	if len(l) == 0 {
		return "-"
	}
	var all []string
	for _, bits := range l {
		all = append(all, row(bits))
	}
	return strings.Join(all, ",")
}

func (p *player) shown(a *arguments) {
	a.end()
	need(p.display != nil)
	l := p.display.Shown()
	for _, x := range l {
		if x.Known {
			b := x.Map
			p.printLine(strings.Join([]string{"pixels", strconv.Itoa(b.Left), strconv.Itoa(b.Top), strconv.Itoa(b.Width), strconv.Itoa(b.Height), rows(b.Rows)}, " "))
		} else {
			p.printLine("waiting")
		}
	}
	p.none(len(l))
}

func (p *player) copyText(a *arguments) {
	from, to := a.number(), a.number()
	a.end()
	need(p.display != nil)
	p.printLine(writeBytes(p.display.Copy(from, to)))
}

// wholes returns the bitmaps of the clusters of a paragraph with the sources, nil for those that are not whole.
func (p *player) wholes(cores []api.Core, para api.Para) []*api.Bitmap {
	l := make([]*api.Bitmap, len(cluster.Split(para.Text)))
	for _, piece := range page.Pieces(cores, para.Text) {
		if piece.Level < 0 {
			continue
		}
		set := flow.Setting(cores[piece.Level], para.Set)
		bitmaps, e := picture.Whole(*p.sources[piece.Level], para.Text[piece.From:piece.To], set)
		if e != api.OK {
			continue
		}
		first := cluster.At(para.Text, piece.From)
		for c := range bitmaps {
			l[first+c] = &bitmaps[c]
		}
	}
	return l
}

// allWholes returns what wholes returns for all paragraphs, nothing if a font has no source.
func (p *player) allWholes() []*api.Bitmap {
	var cores []api.Core
	for _, f := range p.sources {
		if f == nil {
			return nil
		}
		cores = append(cores, f.Core)
	}
	var l []*api.Bitmap
	for _, para := range p.doc.Paras {
		l = append(l, p.wholes(cores, para)...)
	}
	return l
}

func (p *player) compare(a *arguments) {
	a.end()
	need(p.display != nil)
	whole := p.allWholes()
	all, same, different := 0, 0, false
	for k, x := range p.display.Shown() {
		if k >= len(whole) || whole[k] == nil {
			continue
		}
		all++
		if x.Known && scan.Same(x.Map, *whole[k]) {
			same++
		} else if x.Known {
			different = true
		}
	}
	p.printLine(with("same", same) + " " + with("of", all))
	if different {
		p.printLine("different")
	}
}
