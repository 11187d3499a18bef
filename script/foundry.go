package script

import (
	"slices"
	"strings"

	"abugida/api"
	"abugida/display"
	"abugida/font"
	"abugida/parts"
	"abugida/sign"
	"abugida/source"
	"abugida/wire"
)

func (p *player) makeFont(a *arguments) {
	k := a.number()
	text := strings.Join(a.parts, " ")
	requireForm(text != "")
	require(k >= 0 && k < slots, api.ErrNone)
	f, n, e := source.Parse(strings.ReplaceAll(text, ";", "\n"))
	if e != api.OK {
		p.printLine(with("line", n)+" error", int(e))
		return
	}
	f = parts.Rooted(f)
	p.fonts[k] = &f
	p.report(api.OK)
}

func pinOf(name string, c api.Core) api.Pin {
	return api.Pin{Name: name, Version: c.Version, Root: c.Root}
}

func (p *player) makeDoc(a *arguments) {
	d := api.Doc{Width: a.number()}
	list := []int{a.number()}
	for a.more() {
		list = append(list, a.number())
	}
	for _, k := range list {
		c := p.font(k).Core
		d.Fonts = append(d.Fonts, pinOf(c.Name, c))
	}
	p.doc, p.slots = &d, list
	p.display, p.sources, p.sealed = nil, nil, nil
	p.report(api.OK)
}

func (p *player) addPara(a *arguments) {
	set := a.setting()
	text := a.bytes()
	a.end()
	need(p.doc != nil && p.display == nil)
	p.doc.Paras = append(p.doc.Paras, api.Para{Text: text, Set: set})
	p.report(api.OK)
}

func (p *player) open(a *arguments) {
	seed, bytes := a.name(), a.number()
	a.end()
	need(p.doc != nil)
	public, _ := sign.Public(seed, signs)
	d, e := display.New(*p.doc, public, bytes)
	if e == api.OK {
		p.display = d
		p.sources = make([]*api.Font, len(p.doc.Fonts))
	}
	p.report(e)
}

// signature returns that of a message, and the empty one if there is none.
func signature(seed string, i int, message string) string {
	s, e := sign.Sign(seed, signs, i, message)
	if e != api.OK {
		return ""
	}
	return s
}

func (p *player) core(a *arguments) {
	k, seed, i := a.number(), a.name(), a.number()
	a.end()
	f := p.font(k)
	need(p.display != nil)
	message := wire.Text("core") + wire.Text(font.Encode(f.Core))
	e := p.display.Core(api.Signed{Core: f.Core, Sign: signature(seed, i, message)})
	if e == api.OK {
		isThis := func(pin api.Pin) bool { return pin.Name == f.Core.Name }
		if n := slices.IndexFunc(p.doc.Fonts, isThis); n >= 0 && p.sources[n] == nil {
			p.sources[n] = &f
		}
	}
	p.report(e)
}

func (p *player) note(a *arguments) {
	n := api.Notice{Font: a.name(), Newest: a.number(), Revoked: a.list()}
	seed, i := a.name(), a.number()
	a.end()
	need(p.display != nil)
	n.Sign = signature(seed, i, wire.Text("note")+wire.Text(n.Font)+wire.Int(n.Newest)+wire.Ints(n.Revoked))
	p.report(p.display.Note(n))
}
