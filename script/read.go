package script

import (
	"strings"

	"abugida/api"
)

const (
	maxDigits = 7
	hexDigits = "0123456789abcdef"
)

// A stop is what leaves a line: the error that it prints.
type stop struct{ errno api.Errno }

func require(holds bool, e api.Errno) {
	if !holds {
		panic(stop{e})
	}
}

// requireForm leaves a line that is no command.
func requireForm(holds bool) { require(holds, api.ErrForm) }

// Arguments are the parts of a line that have not been read.
type arguments struct{ parts []string }

func (a *arguments) next() string {
	requireForm(len(a.parts) > 0)
	s := a.parts[0]
	a.parts = a.parts[1:]
	return s
}

// end leaves a line with too many parts.
func (a *arguments) end() { requireForm(len(a.parts) == 0) }

func (a *arguments) more() bool { return len(a.parts) > 0 }

func readNumber(s string) int {
	digits, negative := strings.CutPrefix(s, "-")
	requireForm(len(digits) >= 1 && len(digits) <= maxDigits)
	n := 0
	for _, c := range []byte(digits) {
		requireForm(c >= '0' && c <= '9')
		n = 10*n + int(c-'0')
	}
	requireForm(digits[0] != '0' || len(digits) == 1 && !negative)
	if negative {
		return -n
	}
	return n
}

func (a *arguments) number() int { return readNumber(a.next()) }

func (a *arguments) key() api.Key {
	return api.Key{Kind: a.number(), N: a.number(), Region: a.number()}
}

func (a *arguments) name() string {
	s := a.next()
	requireForm(s != "")
	for _, c := range []byte(s) {
		requireForm(c >= 'a' && c <= 'z' || c >= '0' && c <= '9')
	}
	return s
}

// list reads numbers with commas between them.
func (a *arguments) list() []int {
	s := a.next()
	if s == "-" {
		return nil
	}
	var l []int
	for _, part := range strings.Split(s, ",") {
		l = append(l, readNumber(part))
	}
	return l
}

// bytes reads hexadecimal bytes.
func (a *arguments) bytes() string {
	s := a.next()
	if s == "-" {
		return ""
	}
	requireForm(s != "" && len(s)%2 == 0)
	var out strings.Builder
	for i := 0; i < len(s); i += 2 {
		high, low := strings.IndexByte(hexDigits, s[i]), strings.IndexByte(hexDigits, s[i+1])
		requireForm(high >= 0 && low >= 0)
		out.WriteByte(byte(16*high + low))
	}
	return out.String()
}

// writeBytes writes what bytes reads.
func writeBytes(s string) string {
	if s == "" {
		return "-"
	}
	var out strings.Builder
	for _, c := range []byte(s) {
		out.WriteByte(hexDigits[c/16])
		out.WriteByte(hexDigits[c%16])
	}
	return out.String()
}

// setting reads a size, features and coordinates.
func (a *arguments) setting() api.Setting {
	return api.Setting{Size: a.number(), Features: a.number(), At: a.list()}
}

// trouble reads what happens to a message.
func (a *arguments) trouble() api.Trouble {
	s := a.next()
	if s == "x" {
		return api.Trouble{Lost: true}
	}
	copies, delay, found := strings.Cut(s, "/")
	requireForm(found)
	return api.Trouble{Copies: readNumber(copies), Delay: readNumber(delay)}
}
