package relay

import (
	"strings"

	"abugida/api"
	"abugida/patch"
	"abugida/wire"
)

const (
	askWord  = "ask"
	toldWord = "told"
)

// Ask returns the text of a request for parts of a version of a font.
func Ask(font string, version int, keys []api.Key) string {
	var out strings.Builder
	out.WriteString(wire.Text(askWord) + wire.Text(font) + wire.Int(version) + wire.Int(len(keys)))
	for _, k := range keys {
		out.WriteString(wire.Int(k.Kind) + wire.Int(k.N) + wire.Int(k.Region))
	}
	return out.String()
}

// Asked reads what Ask wrote.
func Asked(s string) (string, int, []api.Key, bool) {
	r := wire.New(s)
	word, font, version, n := r.Text(), r.Text(), r.Int(), r.Int()
	var keys []api.Key
	for len(keys) < n && !r.Bad() {
		keys = append(keys, api.Key{Kind: r.Int(), N: r.Int(), Region: r.Int()})
	}
	if r.Bad() || r.Left() > 0 || word != askWord || n < 0 {
		return "", 0, nil, false
	}
	return font, version, keys, true
}

// Told returns the text of an answer with these patches.
func Told(l []api.Patch) string {
	var codes []string
	for _, p := range l {
		codes = append(codes, patch.Encode(p))
	}
	return wire.Text(toldWord) + wire.Texts(codes)
}

// Tell reads what Told wrote.
func Tell(s string) ([]api.Patch, bool) {
	r := wire.New(s)
	word, codes := r.Text(), r.Texts()
	if r.Bad() || r.Left() > 0 || word != toldWord {
		return nil, false
	}
	var l []api.Patch
	for _, code := range codes {
		p, e := patch.Decode(code)
		if e != api.OK {
			return nil, false
		}
		l = append(l, p)
	}
	return l, true
}
