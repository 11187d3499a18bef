package seal

import (
	"strings"

	"abugida/api"
	"abugida/font"
	"abugida/wire"
)

const maxCode = 1048576

func list[T any](l []T, one func(T) string) string {
	var out strings.Builder
	out.WriteString(wire.Int(len(l)))
	for _, x := range l {
		out.WriteString(one(x))
	}
	return out.String()
}

func numbers(l ...int) string {
	var out strings.Builder
	for _, n := range l {
		out.WriteString(wire.Int(n))
	}
	return out.String()
}

func encodePin(p api.Pin) string {
	return wire.Text(p.Name) + wire.Int(p.Version) + wire.Text(p.Root)
}

func encodePara(p api.Para) string {
	return wire.Text(p.Text) + wire.Int(p.Set.Size) + wire.Ints(p.Set.At) + wire.Int(p.Set.Features)
}

func encodeDoc(d api.Doc) string {
	return wire.Int(d.Width) + list(d.Fonts, encodePin) + list(d.Paras, encodePara)
}

func encodeRange(r [2]int) string     { return numbers(r[0], r[1]) }
func encodeRanges(l [][2]int) string  { return list(l, encodeRange) }
func encodeCore(c api.Core) string    { return wire.Text(font.Encode(c)) }
func encodeStep(s api.Step) string    { return numbers(s.Glyph, s.Why, s.N, s.Rule, s.Out) }
func encodeSteps(l []api.Step) string { return list(l, encodeStep) }

func encodeCarried(c api.Carried) string {
	return numbers(c.Font, c.Key.Kind, c.Key.N, c.Key.Region) + wire.Text(c.Body) + wire.Int(c.Index) + wire.Texts(c.Proof)
}

// Encode returns the bytes of a sealed document.
func Encode(s api.Seal) string {
	return encodeDoc(s.Doc) + encodeRange(s.Sizes) + list(s.Axes, encodeRanges) + list(s.Cores, encodeCore) +
		list(s.Parts, encodeCarried) + list(s.Steps, encodeSteps)
}

// A reader reads the parts of a sealed document.
type reader struct {
	*wire.Reader
	wrong bool // a core could not be read
}

// elements reads a list whose elements have a byte at least.
func elements[T any](r *reader, one func() T) []T {
	var l []T
	for n := r.Int(); len(l) < n && !r.Bad(); {
		l = append(l, one())
	}
	return l
}

func (r *reader) pin() api.Pin {
	return api.Pin{Name: r.Text(), Version: r.Int(), Root: r.Text()}
}

func (r *reader) para() api.Para {
	return api.Para{Text: r.Text(), Set: api.Setting{Size: r.Int(), At: r.Ints(), Features: r.Int()}}
}

func (r *reader) doc() api.Doc {
	return api.Doc{Width: r.Int(), Fonts: elements(r, r.pin), Paras: elements(r, r.para)}
}

func (r *reader) pair() [2]int      { return [2]int{r.Int(), r.Int()} }
func (r *reader) key() api.Key      { return api.Key{Kind: r.Int(), N: r.Int(), Region: r.Int()} }
func (r *reader) ranges() [][2]int  { return elements(r, r.pair) }
func (r *reader) steps() []api.Step { return elements(r, r.step) }

func (r *reader) step() api.Step {
	return api.Step{Glyph: r.Int(), Why: r.Int(), N: r.Int(), Rule: r.Int(), Out: r.Int()}
}

func (r *reader) core() api.Core {
	c, e := font.Decode(r.Text())
	r.wrong = r.wrong || e != api.OK
	return c
}

func (r *reader) carried() api.Carried {
	return api.Carried{Font: r.Int(), Key: r.key(), Body: r.Text(), Index: r.Int(), Proof: r.Texts()}
}

// Decode returns the sealed document with these bytes.
func Decode(s string) (api.Seal, api.Errno) {
	if len(s) > maxCode {
		return api.Seal{}, api.ErrMany
	}
	r := &reader{Reader: wire.New(s)}
	out := api.Seal{
		Doc:   r.doc(),
		Sizes: r.pair(),
		Axes:  elements(r, r.ranges),
		Cores: elements(r, r.core),
		Parts: elements(r, r.carried),
		Steps: elements(r, r.steps),
	}
	// A number of elements that is negative reads as none, but is written otherwise.
	if r.wrong || r.Bad() || r.Left() > 0 || Encode(out) != s {
		return api.Seal{}, api.ErrForm
	}
	return out, api.OK
}
