package source

import (
	"strconv"
	"strings"

	"abugida/api"
	"abugida/font"
)

// A writer gathers the lines of a text.
type writer struct{ out strings.Builder }

func (w *writer) line(parts ...string) {
	w.out.WriteString(strings.Join(parts, " "))
	w.out.WriteByte('\n')
}

// line returns the parts of a line: its word, numbers, and what one writes of each element of a list.
func line[T any](word string, numbers []int, l []T, one func(T) string) []string {
	parts := []string{word}
	for _, n := range numbers {
		parts = append(parts, strconv.Itoa(n))
	}
	for _, x := range l {
		parts = append(parts, one(x))
	}
	return parts
}

func joined(mark string, l ...int) string {
	return strings.Join(line("", l, nil, strconv.Itoa)[1:], mark)
}

func marked(mark string) func([2]int) string {
	return func(p [2]int) string { return joined(mark, p[0], p[1]) }
}

func writeGrow(g api.Grow) string { return joined("=", g.Region, g.By) }
func writeTent(t api.Tent) string { return joined("/", t.From, t.Peak, t.To) }
func writeCall(c api.Call) string { return joined(":", c.At, c.Lookup) }
func writeSet(l []int) string     { return "{" + joined(",", l...) + "}" }

func writePoint(p api.Point) string {
	if p.On {
		return joined(",", p.X, p.Y)
	}
	return joined(",", p.X, p.Y) + "~"
}

func writeIns(i api.Ins) string {
	word := words[i.Op-api.OpPush]
	if hasNumber(i.Op) {
		return word + " " + strconv.Itoa(i.N)
	}
	return word
}

func writeBytes(s string) string {
	var out strings.Builder
	for _, c := range []byte(s) {
		out.WriteByte(hexDigits[c/16])
		out.WriteByte(hexDigits[c%16])
	}
	return out.String()
}

func (w *writer) core(c api.Core) {
	w.line("font", c.Name, strconv.Itoa(c.Version))
	for _, a := range c.Axes {
		w.line(line("axis "+a.Name, []int{a.Min, a.Default, a.Max}, a.Map, marked("="))...)
	}
	for _, r := range c.Regions {
		w.line(line("region", nil, r.Tents, writeTent)...)
	}
}

func (w *writer) rule(r api.Rule) {
	parts := line("rule", nil, r.Back, writeSet)
	parts = append(parts, line("|", nil, r.In, writeSet)...)
	parts = append(parts, line("|", nil, r.Ahead, writeSet)...)
	if len(r.Calls) > 0 {
		parts = append(parts, line("call", nil, r.Calls, writeCall)...)
	} else {
		parts = append(parts, line(">", r.Out, nil, writeSet)...)
	}
	w.line(parts...)
}

func (w *writer) chars(c api.Core) {
	for _, x := range c.Chars {
		w.line(line("char", []int{x.Code, x.Glyph, x.Width}, x.Wide, writeGrow)...)
	}
	for _, p := range c.Pairs {
		w.line("pair", joined(" ", p.Left, p.Right, p.By))
	}
}

func (w *writer) anchor(word string, a api.Anchor) {
	w.line(word, strconv.Itoa(a.Class), joined(",", a.X, a.Y))
}

func (w *writer) glyph(g api.Glyph) {
	w.line("glyph", strconv.Itoa(g.Advance))
	for _, c := range g.Contours {
		w.line(line("contour", nil, c, writePoint)...)
	}
	for _, a := range g.Anchors {
		w.anchor("anchor", a)
	}
	if g.Hang.Class != 0 {
		w.anchor("hang", g.Hang)
	}
	for _, d := range g.Deltas {
		w.line(line("delta", []int{d.Region, d.Advance}, d.Moves, marked(","))...)
	}
	if len(g.Program) > 0 {
		w.line(line("program", nil, g.Program, writeIns)...)
	}
}

// Text returns the text of a right font.
func Text(f api.Font) (string, api.Errno) {
	if e := font.Check(f); e != api.OK {
		return "", e
	}
	var w writer
	w.core(f.Core)
	for k, l := range f.Lookups {
		w.line("lookup", strconv.Itoa(f.Core.Heads[k].Feature))
		for _, r := range l.Rules {
			w.rule(r)
		}
	}
	w.chars(f.Core)
	for _, g := range f.Glyphs {
		w.glyph(g)
	}
	if f.Core.Root != "" {
		w.line("root", writeBytes(f.Core.Root))
	}
	return w.out.String(), api.OK
}
