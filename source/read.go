package source

import (
	"slices"
	"strings"

	"abugida/api"
)

const (
	maxDigits = 7
	hexDigits = "0123456789abcdef"
)

// wrong is what a line that is not right panics with.
type wrong struct{}

func require(holds bool) {
	if !holds {
		panic(wrong{})
	}
}

// take takes away the first part of a line.
func take(parts *[]string) string {
	require(len(*parts) > 0)
	first := (*parts)[0]
	*parts = (*parts)[1:]
	return first
}

func none(parts []string) { require(len(parts) == 0) }

// all reads each part of a list.
func all[T any](parts []string, one func(string) T) []T {
	var l []T
	for _, p := range parts {
		l = append(l, one(p))
	}
	return l
}

// cut reads what stands before and behind a mark.
func cut[A, B any](s, mark string, first func(string) A, second func(string) B) (A, B) {
	a, b, found := strings.Cut(s, mark)
	require(found)
	return first(a), second(b)
}

func word(s string) string {
	require(s != "")
	for _, c := range []byte(s) {
		require(c >= 'a' && c <= 'z' || c >= '0' && c <= '9')
	}
	return s
}

func number(s string) int {
	digits, negative := strings.CutPrefix(s, "-")
	require(len(digits) >= 1 && len(digits) <= maxDigits)
	n := 0
	for _, c := range []byte(digits) {
		require(c >= '0' && c <= '9')
		n = 10*n + int(c-'0')
	}
	// A zero in front is right only in 0 itself.
	require(digits[0] != '0' || len(digits) == 1 && !negative)
	if negative {
		return -n
	}
	return n
}

func bytes(s string) string {
	require(s != "" && len(s)%2 == 0)
	var out strings.Builder
	for i := 0; i < len(s); i += 2 {
		high, low := strings.IndexByte(hexDigits, s[i]), strings.IndexByte(hexDigits, s[i+1])
		require(high >= 0 && low >= 0)
		out.WriteByte(byte(16*high + low))
	}
	return out.String()
}

func twoNumbers(mark string) func(string) [2]int {
	return func(s string) [2]int {
		a, b := cut(s, mark, number, number)
		return [2]int{a, b}
	}
}

func grow(s string) api.Grow {
	region, by := cut(s, "=", number, number)
	return api.Grow{Region: region, By: by}
}

func axis(parts []string) api.Axis {
	a := api.Axis{Name: word(take(&parts)), Min: number(take(&parts)), Default: number(take(&parts)), Max: number(take(&parts))}
	a.Map = all(parts, twoNumbers("="))
	return a
}

func tent(s string) api.Tent {
	l := all(strings.Split(s, "/"), number)
	require(len(l) == 3)
	return api.Tent{From: l[0], Peak: l[1], To: l[2]}
}

func set(s string) []int {
	inner, opened := strings.CutPrefix(s, "{")
	inner, closed := strings.CutSuffix(inner, "}")
	require(opened && closed)
	if inner == "" {
		return nil
	}
	return all(strings.Split(inner, ","), number)
}

// until takes away the parts up to one of the marks, and this; it returns the mark, too.
func until(parts *[]string, marks ...string) (taken []string, mark string) {
	k := slices.IndexFunc(*parts, func(p string) bool { return slices.Contains(marks, p) })
	require(k >= 0)
	taken, mark = (*parts)[:k], (*parts)[k]
	*parts = (*parts)[k+1:]
	return taken, mark
}

func call(s string) api.Call {
	at, lookup := cut(s, ":", number, number)
	return api.Call{At: at, Lookup: lookup}
}

func rule(parts []string) api.Rule {
	back, _ := until(&parts, "|")
	in, _ := until(&parts, "|")
	ahead, mark := until(&parts, ">", "call")
	r := api.Rule{Back: all(back, set), In: all(in, set), Ahead: all(ahead, set)}
	if mark == ">" {
		r.Out = all(parts, number)
		return r
	}
	require(len(parts) > 0)
	r.Calls = all(parts, call)
	return r
}

func char(parts []string) api.Char {
	c := api.Char{Code: number(take(&parts)), Glyph: number(take(&parts)), Width: number(take(&parts))}
	c.Wide = all(parts, grow)
	return c
}

func pair(parts []string) api.Pair {
	p := api.Pair{Left: number(take(&parts)), Right: number(take(&parts)), By: number(take(&parts))}
	none(parts)
	return p
}

func point(s string) api.Point {
	inner, off := strings.CutSuffix(s, "~")
	x, y := cut(inner, ",", number, number)
	return api.Point{X: x, Y: y, On: !off}
}

func anchor(parts []string) api.Anchor {
	class := number(take(&parts))
	at := twoNumbers(",")(take(&parts))
	none(parts)
	return api.Anchor{Class: class, X: at[0], Y: at[1]}
}

func hang(parts []string) api.Anchor {
	a := anchor(parts)
	require(a.Class != 0)
	return a
}

func delta(parts []string) api.Delta {
	d := api.Delta{Region: number(take(&parts)), Advance: number(take(&parts))}
	d.Moves = all(parts, twoNumbers(","))
	return d
}
