// Package whole has tests of all layers together: P1, the rules, and the promises T1 to T12 of the document.
package whole

import (
	"math"
	"math/rand"
	"reflect"
	"strings"
	"testing"

	"abugida/api"
	"abugida/atlas"
	"abugida/attach"
	"abugida/axes"
	"abugida/bound"
	"abugida/breaks"
	"abugida/chars"
	"abugida/check"
	"abugida/closure"
	"abugida/cluster"
	"abugida/diff"
	"abugida/digest"
	"abugida/display"
	"abugida/fit"
	"abugida/fix"
	"abugida/flow"
	"abugida/font"
	"abugida/forms"
	"abugida/known"
	"abugida/lines"
	"abugida/maybe"
	"abugida/memory"
	"abugida/order"
	"abugida/outline"
	"abugida/page"
	"abugida/panel"
	"abugida/parts"
	"abugida/patch"
	"abugida/picture"
	"abugida/relay"
	"abugida/rules"
	"abugida/scan"
	"abugida/script"
	"abugida/seal"
	"abugida/sets"
	"abugida/shape"
	"abugida/sign"
	"abugida/source"
	"abugida/stack"
	"abugida/wire"
)

// functions are those that the chapters list.
func functions() []any {
	return []any{
		fix.Round, fix.Down, fix.Up, fix.Mul, fix.Part, fix.Times, fix.Line, fix.Clamp, wire.Int, wire.Text, wire.Ints, wire.Texts, wire.New,
		digest.Of, digest.Pair, digest.Root, digest.Proof, digest.Verify, sign.Public, sign.Sign, sign.Check,
		chars.Class, chars.Script, chars.Strong, chars.Joins, chars.Extends, chars.Codes, cluster.Split, cluster.At, cluster.Base,
		order.Right, order.Levels, order.Runs, order.Visual, breaks.May, breaks.Fill,
		axes.Check, axes.Normal, axes.Right, axes.Scalar, axes.Sum, axes.Ranges, axes.Within, axes.Touches,
		outline.Check, outline.Points, outline.At, outline.Scale, outline.Same,
		scan.Inside, scan.Fill, scan.Right, scan.Get, scan.Move, scan.Or, scan.Trim, scan.Same,
		stack.Check, stack.Run, bound.Prove, bound.Box, bound.Glyph, fit.At, fit.Bits,
		sets.Norm, sets.Right, sets.Has, sets.Join, sets.Meet, sets.Less, sets.Overlap, sets.Range,
		rules.Check, rules.First, rules.Match, rules.Apply, forms.Forms, forms.Order, forms.May, shape.Nominal, shape.Run, shape.Cluster, attach.Places,
		font.CheckCore, font.Check, font.Encode, font.Decode, font.Glyph, font.Width, font.Between, font.Same, source.Parse, source.Text,
		parts.Keys, parts.Body, parts.Read, parts.Leaf, parts.Root, parts.Rooted, parts.Proof, closure.Check, closure.Steps, closure.Glyphs, closure.Need,
		diff.Make, diff.Apply, patch.Make, patch.Answer, patch.Open, patch.Encode, patch.Decode, known.New, maybe.Run, maybe.Misses, picture.Cluster, picture.Run, picture.Whole,
		flow.Fonts, flow.Setting, flow.Widths, flow.Places, page.Check, page.Pieces, page.Places, page.Pick, page.Copy, memory.New, atlas.New, atlas.Name, panel.New, panel.Plan, panel.Cut, lines.New,
		relay.Ask, relay.Asked, relay.Told, relay.Tell, relay.New, seal.Make, seal.Request, seal.Encode, seal.Decode, check.Closed, check.Check, display.New, script.Play,
		(*wire.Reader).Int, (*wire.Reader).Text, (*wire.Reader).Ints, (*wire.Reader).Texts, (*wire.Reader).Left, (*wire.Reader).Bad,
		(*known.Known).Core, (*known.Known).Take, (*known.Known).Drop, (*known.Known).Body, (*known.Known).Keys, (*known.Known).Lookup, (*known.Known).Glyph,
		(*memory.Memory).Put, (*memory.Memory).Use, (*memory.Memory).Pin, (*memory.Memory).Drop, (*memory.Memory).Used, (*memory.Memory).List,
		(*atlas.Atlas).Put, (*atlas.Atlas).Get, (*atlas.Atlas).Names, (*atlas.Atlas).Rect,
		(*panel.Panel).Fail, (*panel.Panel).Write, (*panel.Panel).Pixels, (*panel.Panel).Updates, (*lines.Lines).Send, (*lines.Lines).Next,
		(*relay.Relay).Keep, (*relay.Relay).Take, (*relay.Relay).Many,
		(*display.Display).Core, (*display.Display).Note, (*display.Display).Take, (*display.Display).Drop, (*display.Display).Set, (*display.Display).Move, (*display.Display).Wants, (*display.Display).Places, (*display.Display).Shown, (*display.Display).Copy,
	}
}

// An arguer makes arguments: such as are right, and such as are bent.
type arguer struct {
	r     *rand.Rand
	fonts []api.Font
	made  map[reflect.Type][]reflect.Value
}

func newArguer(t *testing.T, seed int64) *arguer {
	a := &arguer{r: rand.New(rand.NewSource(seed)), made: map[reflect.Type][]reflect.Value{}}
	a.fonts = []api.Font{randomFont(t, a.r, "a", 1, []int{32, 64, 65, 97, 104}), randomFont(t, a.r, "b", 2, []int{64, 66, 104, 105})}
	for _, f := range a.fonts {
		text, _ := source.Text(f)
		a.add(f, f.Core, f.Lookups, f.Glyphs, f.Glyphs[0], f.Glyphs[1], f.Core.Regions, f.Lookups[0], text, font.Encode(f.Core))
		for _, k := range parts.Keys(f)[:3] {
			p, _ := patch.Make(f, k, api.Key{})
			a.add(p, k, patch.Encode(p), []api.Patch{p}, relay.Told([]api.Patch{p}), api.Message{From: 1, To: 2, Text: relay.Told([]api.Patch{p})})
		}
		k, _ := known.New(f.Core)
		a.add(k, f.Core.Axes[0], api.Signed{Core: f.Core})
		d, _ := outline.At(f.Glyphs[1], f.Core.Regions, []int{5})
		a.add(d, []api.Drawn{d, outline.Scale(d, 9)}, outline.Scale(d, 9).Contours)
		b, _ := fit.Bits(outline.Scale(d, 9), 0, 0)
		a.add(b)
	}
	doc := document(40, a.fonts, api.Para{Text: "@A hB\n", Set: api.Setting{Size: 8, At: []int{3}}})
	sealed, e := seal.Make(doc, a.fonts, [2]int{7, 9}, [][][2]int{{{-3, 5}}, {{0, 9}}})
	if e != api.OK {
		t.Fatal(e)
	}
	public, _ := sign.Public("s", 2)
	screen, _ := display.New(doc, public, 500)
	for _, f := range a.fonts {
		screen.Core(signed(f.Core))
	}
	a.add(doc, sealed, seal.Encode(sealed), screen, []api.Core{a.fonts[0].Core, a.fonts[1].Core}, a.fonts, memory.New(90), atlas.New(9, 9), panel.New(9, 9), lines.New(3, nil), relay.New(2, 900), wire.New(seal.Encode(sealed)))
	a.add([2]int{4, 32}, [][2]int{{-64, 64}}, []int{0, 5, 9}, []int{0}, api.Setting{Size: 9, At: []int{0}}, "@A\xf0hi \x98\xb8", seal.Request(sealed, 0), sealed.Steps[0], script39)
	return a
}

// add keeps values as arguments for their types.
func (a *arguer) add(l ...any) {
	for _, x := range l {
		v := reflect.ValueOf(x)
		a.made[v.Type()] = append(a.made[v.Type()], v)
	}
}

func (a *arguer) number() int {
	all := []int{0, 1, 2, 3, 4, 5, 8, 32, 64, 100, -1, -2, -64, 1000, api.MaxValue, -api.MaxValue, math.MaxInt, math.MinInt, math.MaxInt - 1, 65536}
	if a.r.Intn(3) == 0 {
		return a.r.Intn(40) - 10
	}
	return all[a.r.Intn(len(all))]
}

// bend changes something within a value that can be set.
func (a *arguer) bend(v reflect.Value) {
	switch v.Kind() {
	case reflect.Int:
		v.SetInt(int64(a.number()))
	case reflect.Uint64:
		v.SetUint(a.r.Uint64())
	case reflect.Bool:
		v.SetBool(!v.Bool())
	case reflect.String:
		b := []byte(v.String())
		for k := range b {
			if a.r.Intn(20) == 0 {
				b[k] = byte(a.r.Intn(256))
			}
		}
		v.SetString(string(append(b[:a.r.Intn(len(b)+1)], strings.Repeat("\xb8", a.r.Intn(3))...)))
	case reflect.Struct:
		if n := v.NumField(); n > 0 {
			a.bend(v.Field(a.r.Intn(n)))
		}
	case reflect.Array:
		a.bend(v.Index(a.r.Intn(v.Len())))
	case reflect.Slice:
		switch n := v.Len(); {
		case n == 0 || a.r.Intn(8) == 0:
			v.Set(reflect.Append(v, a.value(v.Type().Elem())))
		case a.r.Intn(8) == 0:
			v.Set(v.Slice(0, a.r.Intn(n)))
		default:
			a.bend(v.Index(a.r.Intn(n)))
		}
	}
}

// copyOf returns a value that shares no memory, and can be set.
func copyOf(v reflect.Value) reflect.Value {
	out := reflect.New(v.Type()).Elem()
	switch v.Kind() {
	case reflect.Struct:
		for k := range v.NumField() {
			out.Field(k).Set(copyOf(v.Field(k)))
		}
	case reflect.Slice:
		if !v.IsNil() {
			out.Set(reflect.MakeSlice(v.Type(), v.Len(), v.Len()))
		}
		fallthrough
	case reflect.Array:
		for k := range v.Len() {
			out.Index(k).Set(copyOf(v.Index(k)))
		}
	default:
		out.Set(v)
	}
	return out
}

// value returns an argument of a type.
func (a *arguer) value(t reflect.Type) reflect.Value {
	if l := a.made[t]; len(l) > 0 && a.r.Intn(6) > 0 {
		v := l[a.r.Intn(len(l))]
		if t.Kind() == reflect.Pointer {
			return v
		}
		v = copyOf(v)
		for range a.r.Intn(4) {
			a.bend(v)
		}
		return v
	}
	v := reflect.New(t).Elem()
	switch t.Kind() {
	case reflect.Pointer:
		if a.r.Intn(2) == 0 {
			v.Set(reflect.New(t.Elem()))
		}
	case reflect.Struct:
		for k := range v.NumField() {
			if v.Field(k).CanSet() {
				v.Field(k).Set(a.value(v.Field(k).Type()))
			}
		}
	case reflect.Array:
		for k := range v.Len() {
			v.Index(k).Set(a.value(t.Elem()))
		}
	case reflect.Slice:
		for range a.r.Intn(4) {
			v.Set(reflect.Append(v, a.value(t.Elem())))
		}
	default:
		a.bend(v)
	}
	return v
}

// P1, R1, R2, R3: no call panics, changes its arguments, or returns something together with an error or with false.
func TestHostileArguments(t *testing.T) {
	errno := reflect.TypeOf(api.OK)
	returned := map[bool]int{}
	for seed := range int64(12) {
		a := newArguer(t, seed)
		for _, f := range functions() {
			call := reflect.ValueOf(f)
			for range 60 {
				var in, before []reflect.Value
				for k := range call.Type().NumIn() {
					v := a.value(call.Type().In(k))
					in = append(in, v)
					if v.Kind() != reflect.Pointer {
						before = append(before, copyOf(v))
					}
				}
				out := call.Call(in)
				k := 0
				for _, v := range in {
					if v.Kind() == reflect.Pointer {
						continue
					}
					if !reflect.DeepEqual(v.Interface(), before[k].Interface()) {
						t.Fatalf("%v changes its argument", call.Type())
					}
					k++
				}
				if len(out) < 2 || out[len(out)-1].Type() != errno {
					continue
				}
				failed := out[len(out)-1].Int() != 0
				returned[failed]++
				for _, v := range out[:len(out)-1] {
					isLine := call.Pointer() == reflect.ValueOf(source.Parse).Pointer() && v.Kind() == reflect.Int
					if failed && !isLine && !isNothing(v) {
						t.Fatalf("%v returns %v together with %v", call.Type(), v, out[len(out)-1])
					}
				}
			}
		}
	}
	if returned[true] < 1000 || returned[false] < 1000 {
		t.Error("too few calls", returned)
	}
}

func isNothing(v reflect.Value) bool {
	return v.IsZero() || v.Kind() == reflect.Slice && v.Len() == 0
}

// R4: the same calls return the same.
func TestSameCallsSameResults(t *testing.T) {
	for seed := range int64(3) {
		a, b := newArguer(t, seed), newArguer(t, seed)
		for _, f := range functions() {
			call := reflect.ValueOf(f)
			for range 15 {
				one := call.Call(a.arguments(call.Type()))
				other := call.Call(b.arguments(call.Type()))
				for k := range one {
					if one[k].Kind() != reflect.Pointer && !reflect.DeepEqual(one[k].Interface(), other[k].Interface()) {
						t.Fatalf("%v returns %v, and then %v", call.Type(), one[k], other[k])
					}
				}
			}
		}
	}
}

func (a *arguer) arguments(t reflect.Type) (in []reflect.Value) {
	for k := range t.NumIn() {
		in = append(in, a.value(t.In(k)))
	}
	return in
}
