package wire

import (
	"encoding/hex"
	"math"
	"math/rand"
	"slices"
	"strings"
	"testing"
)

func bytesOf(t *testing.T, s string) string {
	t.Helper()
	b, err := hex.DecodeString(strings.ReplaceAll(s, " ", ""))
	if err != nil {
		t.Fatal(err)
	}
	return string(b)
}

func ints(r *rand.Rand) []int {
	l := []int{0, -1, 1, 63, 64, -64, -65, 300, math.MaxInt, math.MinInt, math.MaxInt - 1, math.MinInt + 1, 1 << 62, -1 << 62}
	for range 200 {
		l = append(l, int(r.Uint64())>>r.Intn(64))
	}
	return l
}

// P2.1
func TestBytes(t *testing.T) {
	for n, want := range map[int]string{0: "00", -1: "01", 63: "7e", 64: "80 01", -64: "7f", 300: "d8 04", -65: "81 01", math.MaxInt: "fe ff ff ff ff ff ff ff ff 01", math.MinInt: "ff ff ff ff ff ff ff ff ff 01"} {
		if got := Int(n); got != bytesOf(t, want) {
			t.Errorf("Int of %d: %x", n, got)
		}
	}
	if got := Text("ab"); got != bytesOf(t, "04 61 62") {
		t.Errorf("Text: %x", got)
	}
	if got := Ints([]int{1, -2}); got != bytesOf(t, "04 02 03") {
		t.Errorf("Ints: %x", got)
	}
	if got := Texts([]string{"", "a"}); got != bytesOf(t, "04 00 02 61") {
		t.Errorf("Texts: %x", got)
	}
	if Ints(nil) != "\x00" || Ints([]int{}) != "\x00" || Texts(nil) != "\x00" || Text("") != "\x00" {
		t.Error("nothing")
	}
}

// P2.2, P2.3
func TestReading(t *testing.T) {
	r := New(bytesOf(t, "04 02 03 05"))
	if r.Bad() || r.Left() != 4 {
		t.Error("a new reader")
	}
	if got := r.Ints(); !slices.Equal(got, []int{1, -2}) || r.Left() != 1 {
		t.Error("Ints", got, r.Left())
	}
	if got := r.Int(); got != -3 || r.Bad() || r.Left() != 0 {
		t.Error("Int", got)
	}
	if r.Int() != 0 || !r.Bad() {
		t.Error("Int at the end")
	}
	for _, s := range []string{"80 00", "80", "ff ff ff ff ff ff ff ff ff ff", "ff ff ff ff ff ff ff ff ff 02", "80 80 80 80 80 80 80 80 80 80 01", "81 80 00", ""} {
		r := New(bytesOf(t, s))
		if got := r.Int(); got != 0 || !r.Bad() || r.Left() != 0 {
			t.Errorf("Int of %s: %d", s, got)
		}
		if r.Int() != 0 || r.Text() != "" || r.Ints() != nil || r.Texts() != nil || !r.Bad() {
			t.Errorf("further calls of %s", s)
		}
	}
	r = New(bytesOf(t, "01 00"))
	if r.Text() != "" || !r.Bad() || r.Int() != 0 || r.Left() != 0 {
		t.Error("a text of -1 bytes")
	}
	for _, s := range []string{"01", "04 02", "04 02 80", "fe ff ff ff ff ff ff ff ff 01", "04", "ff ff ff ff ff ff ff ff ff 01 00 00", "04 80 00 02"} {
		if r := New(bytesOf(t, s)); r.Ints() != nil || !r.Bad() {
			t.Errorf("Ints of %s", s)
		}
		if r := New(bytesOf(t, s)); r.Texts() != nil || !r.Bad() {
			t.Errorf("Texts of %s", s)
		}
		if r := New(bytesOf(t, s) + "a"); s == "04" && (r.Text() != "" || !r.Bad()) {
			t.Errorf("Text of %s", s)
		}
	}
}

// P2.4
func TestNil(t *testing.T) {
	var none *Reader
	if !none.Bad() || none.Left() != 0 || none.Int() != 0 || none.Text() != "" || none.Ints() != nil || none.Texts() != nil {
		t.Error("a nil reader")
	}
	var zero Reader
	if zero.Bad() || zero.Left() != 0 || zero.Text() != "" || !zero.Bad() {
		t.Error("a zero reader")
	}
}

// P2.5, P2.6
func TestWrittenIsRead(t *testing.T) {
	l := ints(rand.New(rand.NewSource(2)))
	var all strings.Builder
	for _, n := range l {
		s := Int(n)
		if len(s) > 10 || (len(s) == 1) != (n >= -64 && n <= 63) {
			t.Errorf("%d has %d bytes", n, len(s))
		}
		if r := New(s[:len(s)-1]); r.Int() != 0 || !r.Bad() {
			t.Errorf("%d without its last byte", n)
		}
		for _, k := range l {
			if n != k && strings.HasPrefix(Int(k), s) {
				t.Errorf("%d begins %d", n, k)
			}
		}
		all.WriteString(s)
	}
	texts := []string{"", "a", strings.Repeat("x", 200), "\x00\xff", ""}
	all.WriteString(Ints(l) + Texts(texts) + Text("end"))
	s := all.String()
	r := New(s)
	for _, n := range l {
		if got := r.Int(); got != n {
			t.Fatalf("%d was read as %d", n, got)
		}
	}
	if !slices.Equal(r.Ints(), l) || !slices.Equal(r.Texts(), texts) || r.Text() != "end" || r.Bad() || r.Left() != 0 {
		t.Error("lists")
	}
	for _, s := range []string{Ints(l), Texts(texts), Text("end"), Ints(nil), Text(""), Texts([]string{"a"})} {
		short := s[:len(s)-1]
		for k, read := range []func(*Reader){func(r *Reader) { r.Ints() }, func(r *Reader) { r.Texts() }, func(r *Reader) { r.Text() }} {
			written := []string{Ints(l), Texts(texts), Text("end")}[k]
			if r := New(written[:len(written)-1]); true {
				read(r)
				if !r.Bad() {
					t.Errorf("kind %d without its last byte is read", k)
				}
			}
		}
		if s == "\x00" && !isBad(short) {
			t.Error("an empty list without its byte")
		}
	}
}

func isBad(s string) bool {
	r := New(s)
	r.Ints()
	return r.Bad()
}
