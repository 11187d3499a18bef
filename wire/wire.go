// Package wire is layer 2: see shared/doc/02-wire.md.
package wire

import (
	"math/bits"
	"strings"
)

// A Reader reads what was written from a string. The zero Reader has the empty string.
type Reader struct {
	text  string
	place int
	bad   bool
}

// Int returns the bytes of the code of n.
func Int(n int) string {
	var digits [10]byte
	l := digits[:0]
	code := uint64(n)<<1 ^ uint64(int64(n)>>63)
	for code >= 128 {
		l = append(l, byte(code)|128)
		code >>= 7
	}
	return string(append(l, byte(code)))
}

// Text returns the bytes of a string: how many it has, and itself.
func Text(s string) string { return Int(len(s)) + s }

func list[T any](l []T, one func(T) string) string {
	var out strings.Builder
	out.WriteString(Int(len(l)))
	for _, x := range l {
		out.WriteString(one(x))
	}
	return out.String()
}

// Ints returns the bytes of a list of numbers.
func Ints(l []int) string { return list(l, Int) }

// Texts returns the bytes of a list of strings.
func Texts(l []string) string { return list(l, Text) }

// New returns a reader of s.
func New(s string) *Reader { return &Reader{text: s} }

// Bad reports whether something could not be read.
func (r *Reader) Bad() bool { return r == nil || r.bad }

// Left returns how many bytes have not been read.
func (r *Reader) Left() int {
	if r.Bad() {
		return 0
	}
	return len(r.text) - r.place
}

// code returns the number whose digits begin at the place, and where they end.
func (r *Reader) code() (code uint64, end int, ok bool) {
	for i := r.place; i < len(r.text); i++ {
		digit := uint64(r.text[i] & 127)
		shift := 7 * (i - r.place)
		if shift+bits.Len64(digit) > 64 {
			return 0, 0, false
		}
		code |= digit << shift
		if r.text[i] < 128 {
			// A zero at the end is a digit that was not written.
			return code, i + 1, digit > 0 || i == r.place
		}
	}
	return 0, 0, false
}

// Int reads a number.
func (r *Reader) Int() int {
	if r.Bad() {
		return 0
	}
	code, end, ok := r.code()
	if !ok {
		r.bad = true
		return 0
	}
	r.place = end
	return int(code>>1) ^ -int(code&1)
}

// count reads how many bytes or elements follow; each of them has a byte at least.
func (r *Reader) count() int {
	n := r.Int()
	if r.Bad() {
		return 0
	}
	if n < 0 || n > r.Left() {
		r.bad = true
		return 0
	}
	return n
}

// Text reads a string.
func (r *Reader) Text() string {
	n := r.count()
	if r.Bad() {
		return ""
	}
	s := r.text[r.place : r.place+n]
	r.place += n
	return s
}

func elements[T any](r *Reader, one func() T) []T {
	n := r.count()
	var l []T
	for len(l) < n && !r.Bad() {
		l = append(l, one())
	}
	if r.Bad() {
		return nil
	}
	return l
}

// Ints reads a list of numbers.
func (r *Reader) Ints() []int { return elements(r, r.Int) }

// Texts reads a list of strings.
func (r *Reader) Texts() []string { return elements(r, r.Text) }
