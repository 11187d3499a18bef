package script

import (
	"slices"

	"abugida/api"
	"abugida/check"
	"abugida/panel"
	"abugida/scan"
	"abugida/seal"
)

// Lines on a page: how far apart they are, and where in them letters stand, and what stands for those that wait.
const (
	lineHeight  = 16
	baseLine    = 12
	waitingLine = 14
)

func (p *player) makePanel(a *arguments) {
	w, h := a.number(), a.number()
	a.end()
	one := panel.New(w, h)
	need(one != nil)
	p.panel, p.width = one, w
	p.report(api.OK)
}

func (p *player) cut(a *arguments) {
	n := a.number()
	a.end()
	need(p.panel != nil)
	p.panel.Fail(n)
	p.report(api.OK)
}

// A sheet is rows on which pixels are set; what lies outside is left out.
type sheet struct {
	width int
	rows  []uint64
}

func (s sheet) set(x, y int) {
	if x >= 0 && x < s.width && y >= 0 && y < len(s.rows) {
		s.rows[y] |= 1 << x
	}
}

func (s sheet) draw(place api.Place, b api.Bitmap) {
	for j := b.Top; j < b.Top+b.Height; j++ {
		for i := b.Left; i < b.Left+b.Width; i++ {
			if scan.Get(b, i, j) {
				s.set(place.X+i, lineHeight*place.Line+baseLine-j)
			}
		}
	}
}

// page returns what the display shows on a page.
func (p *player) page(width, height int) []uint64 {
	s := sheet{width, make([]uint64, height)}
	shown := p.display.Shown()
	for k, place := range p.display.Places() {
		if shown[k].Known {
			s.draw(place, shown[k].Map)
			continue
		}
		for i := range place.Width {
			s.set(place.X+i, lineHeight*place.Line+waitingLine)
		}
	}
	return s.rows
}

func (p *player) show(a *arguments) {
	most := a.number()
	a.end()
	need(p.display != nil && p.panel != nil)
	old := p.panel.Pixels()
	page := p.page(p.width, len(old))
	plan := panel.Plan(old, page, p.width, most)
	for _, c := range plan {
		e := p.panel.Write(c, panel.Cut(page, c))
		require(e == api.OK, e)
	}
	p.printLine("updates", len(plan))
}

func (p *player) pixels(a *arguments) {
	a.end()
	need(p.panel != nil)
	for _, bits := range p.panel.Pixels() {
		p.printLine(row(bits))
	}
}

func (p *player) seal(a *arguments) {
	sizes := [2]int{a.number(), a.number()}
	a.end()
	need(p.doc != nil)
	var fonts []api.Font
	var axes [][][2]int
	for _, slot := range p.slots {
		f := p.font(slot)
		fonts = append(fonts, f)
		axes = append(axes, slices.Repeat([][2]int{{-api.One, api.One}}, len(f.Core.Axes)))
	}
	s, e := seal.Make(*p.doc, fonts, sizes, axes)
	require(e == api.OK, e)
	p.sealed = &s
	p.printLine("parts", len(s.Parts))
}

func (p *player) check(a *arguments) {
	a.end()
	need(p.sealed != nil)
	p.report(check.Check(*p.sealed))
}

func (p *player) without(a *arguments) {
	n := a.number()
	a.end()
	need(p.sealed != nil)
	require(n >= 0 && n < len(p.sealed.Parts), api.ErrNone)
	less := *p.sealed
	less.Parts = slices.Delete(slices.Clone(less.Parts), n, n+1)
	p.report(check.Check(less))
}
