package font

import (
	"strings"

	"abugida/api"
	"abugida/wire"
)

func list[T any](l []T, one func(T) string) string {
	var out strings.Builder
	out.WriteString(wire.Int(len(l)))
	for _, x := range l {
		out.WriteString(one(x))
	}
	return out.String()
}

func numbers(l ...int) string {
	var out strings.Builder
	for _, n := range l {
		out.WriteString(wire.Int(n))
	}
	return out.String()
}

func encodePoint(p [2]int) string      { return numbers(p[0], p[1]) }
func encodeTent(t api.Tent) string     { return numbers(t.From, t.Peak, t.To) }
func encodeRegion(r api.Region) string { return list(r.Tents, encodeTent) }
func encodeGrow(g api.Grow) string     { return numbers(g.Region, g.By) }
func encodePair(p api.Pair) string     { return numbers(p.Left, p.Right, p.By) }
func encodeHead(h api.Head) string     { return wire.Int(h.Feature) + wire.Ints(h.First) }

func encodeAxis(a api.Axis) string {
	return wire.Text(a.Name) + numbers(a.Min, a.Default, a.Max) + list(a.Map, encodePoint)
}

func encodeChar(c api.Char) string {
	return numbers(c.Code, c.Glyph, c.Width) + list(c.Wide, encodeGrow)
}

// Encode returns the bytes of a core.
func Encode(c api.Core) string {
	return wire.Text(c.Name) + wire.Int(c.Version) + list(c.Axes, encodeAxis) + list(c.Regions, encodeRegion) + wire.Int(c.Glyphs) +
		list(c.Chars, encodeChar) + list(c.Pairs, encodePair) + list(c.Heads, encodeHead) + wire.Text(c.Root)
}

// elements reads a list whose elements have a byte at least.
func elements[T any](r *wire.Reader, one func() T) []T {
	var l []T
	for n := r.Int(); len(l) < n && !r.Bad(); {
		l = append(l, one())
	}
	return l
}

// A reader reads the parts of a core.
type reader struct{ *wire.Reader }

func (r reader) point() [2]int      { return [2]int{r.Int(), r.Int()} }
func (r reader) tent() api.Tent     { return api.Tent{From: r.Int(), Peak: r.Int(), To: r.Int()} }
func (r reader) region() api.Region { return api.Region{Tents: elements(r.Reader, r.tent)} }
func (r reader) grow() api.Grow     { return api.Grow{Region: r.Int(), By: r.Int()} }
func (r reader) pair() api.Pair     { return api.Pair{Left: r.Int(), Right: r.Int(), By: r.Int()} }
func (r reader) head() api.Head     { return api.Head{Feature: r.Int(), First: r.Ints()} }

func (r reader) axis() api.Axis {
	return api.Axis{Name: r.Text(), Min: r.Int(), Default: r.Int(), Max: r.Int(), Map: elements(r.Reader, r.point)}
}

func (r reader) char() api.Char {
	return api.Char{Code: r.Int(), Glyph: r.Int(), Width: r.Int(), Wide: elements(r.Reader, r.grow)}
}

func (r reader) core() api.Core {
	return api.Core{
		Name:    r.Text(),
		Version: r.Int(),
		Axes:    elements(r.Reader, r.axis),
		Regions: elements(r.Reader, r.region),
		Glyphs:  r.Int(),
		Chars:   elements(r.Reader, r.char),
		Pairs:   elements(r.Reader, r.pair),
		Heads:   elements(r.Reader, r.head),
		Root:    r.Text(),
	}
}

// Decode returns the core with these bytes.
func Decode(s string) (api.Core, api.Errno) {
	if len(s) > api.MaxBytes {
		return api.Core{}, api.ErrMany
	}
	r := reader{wire.New(s)}
	c := r.core()
	// A number of elements that is negative reads as none, but is written otherwise.
	if r.Bad() || r.Left() > 0 || Encode(c) != s {
		return api.Core{}, api.ErrForm
	}
	return c, api.OK
}
