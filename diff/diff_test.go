package diff

import (
	"math"
	"math/rand"
	"slices"
	"strings"
	"testing"

	"abugida/api"
	"abugida/wire"
)

func difference(copies []int, texts ...string) string { return wire.Ints(copies) + wire.Texts(texts) }

// slowMake follows the words of the chapter.
func slowMake(base, target string) string {
	var copies []int
	texts := []string{""}
	for at := 0; at < len(target); {
		n := 0
		for at+n < len(target) && strings.Contains(base, target[at:at+n+1]) {
			n++
		}
		if n < 4 {
			texts[len(texts)-1] += target[at : at+1]
			at++
			continue
		}
		copies = append(copies, strings.Index(base, target[at:at+n]), n)
		texts = append(texts, "")
		at += n
	}
	return difference(copies, texts...)
}

// P24.2
func TestMakeExamples(t *testing.T) {
	for _, x := range []struct{ base, target, want string }{
		{"abcdef", "abcdXcdef", difference([]int{0, 4, 2, 4}, "", "X", "")}, {"abcabcd", "abcdabcx", difference([]int{3, 4}, "", "abcx")}, {"abc", "abc", difference(nil, "abc")},
		{"", "", difference(nil, "")}, {"abcd", "", difference(nil, "")}, {"", "abcde", difference(nil, "abcde")}, {"abcd", "abcd", difference([]int{0, 4}, "", "")}, {"abcdeabcdf", "abcdf", difference([]int{5, 5}, "", "")}, {"xabcdyabcd", "abcd", difference([]int{1, 4}, "", "")},
	} {
		if got := Make(x.base, x.target); got != x.want {
			t.Errorf("Make of %q, %q: %x", x.base, x.target, got)
		}
	}
	long := strings.Repeat("a", 65536)
	if Make("", long+"a") != "" || Make(long, long) != difference([]int{0, 65536}, "", "") {
		t.Error("a long target")
	}
	if got := Make(long+"a", "aaaaa"); got != difference(nil, "aaaaa") {
		t.Errorf("a base that is too long: %x", got)
	}
	want := []int{}
	for range 13107 {
		want = append(want, 0, 4)
	}
	if got := Make(long, strings.Repeat("aaaab", 13107)); got != wire.Ints(want)+wire.Texts(append(append([]string{""}, slices.Repeat([]string{"b"}, 13106)...), "b")) {
		t.Error("a base that repeats itself")
	}
}

func randomText(r *rand.Rand, letters, most int) string {
	b := make([]byte, r.Intn(most))
	for i := range b {
		b[i] = byte('a' + r.Intn(letters))
	}
	return string(b)
}

// P24.2, P24.3, P24.4
func TestMake(t *testing.T) {
	r := rand.New(rand.NewSource(24))
	for range 4000 {
		letters := 1 + r.Intn(4)
		base, target := randomText(r, letters, 60), randomText(r, letters, 60)
		if r.Intn(3) == 0 && len(base) > 8 {
			k := r.Intn(len(base))
			target = base[k:] + target + base[:k]
		}
		d := Make(base, target)
		if d != slowMake(base, target) {
			t.Fatalf("Make of %q, %q: %x", base, target, d)
		}
		for _, longer := range []string{base, base + "more", base + base} {
			if got, e := Apply(longer, d); got != target || e != api.OK {
				t.Fatalf("%q does not come back: %q %v", target, got, e)
			}
		}
		reader := wire.New(d)
		copies, at := reader.Ints(), 0
		for k, text := range reader.Texts() {
			at += len(text)
			if 2*k >= len(copies) {
				break
			}
			place, n := copies[2*k], copies[2*k+1]
			if at += n; n < 4 || place+n < len(base) && at < len(target) && base[place+n] == target[at] {
				t.Fatalf("the copy %d, %d of %q, %q", place, n, base, target)
			}
		}
		if _, e := Apply(base, d[:len(d)-1]); e != api.ErrForm {
			t.Fatalf("without the last byte: %v", e)
		}
		if _, e := Apply(base, d+"\x00"); e != api.ErrForm {
			t.Fatalf("with a byte behind: %v", e)
		}
		if len(base) >= 4 && Make(base, base) != difference([]int{0, len(base)}, "", "") {
			t.Fatalf("%q with itself", base)
		}
	}
}

// P24.1
func TestApply(t *testing.T) {
	long := strings.Repeat("x", 65536)
	many := slices.Repeat([]int{0, 65536}, 40000)
	for k, x := range []struct {
		base, d, want string
		e             api.Errno
	}{
		{"abcdef", difference([]int{1, 2, 0, 1}, "<", "", ">"), "<bca>", api.OK}, {"abc", difference([]int{1, 3}, "", ""), "", api.ErrRange}, {"abc", difference([]int{3, 1}, "", ""), "", api.ErrRange}, {"abc", difference([]int{0, 0}, "", ""), "", api.ErrRange}, {"abc", difference([]int{-1, 2}, "", ""), "", api.ErrRange}, {"abc", difference([]int{0, 3}, "", ""), "abc", api.OK}, {"abc", difference([]int{2, 1}, "", ""), "c", api.OK},
		{"abc", difference([]int{math.MaxInt, 1}, "", ""), "", api.ErrRange}, {"abc", difference([]int{1, math.MaxInt}, "", ""), "", api.ErrRange}, {"abc", difference([]int{math.MaxInt, math.MaxInt}, "", ""), "", api.ErrRange}, {"abc", difference([]int{2, math.MinInt}, "", ""), "", api.ErrRange},
		{"abc", "", "", api.ErrForm}, {"abc", difference([]int{1}, "", ""), "", api.ErrForm}, {"abc", difference([]int{1}, ""), "", api.ErrForm}, {"abc", difference(nil), "", api.ErrForm}, {"abc", difference(nil, "", ""), "", api.ErrForm}, {"abc", difference([]int{0, 9}, ""), "", api.ErrForm}, {"abc", difference([]int{0, 1}, "", "", ""), "", api.ErrForm}, {"abc", "\x00", "", api.ErrForm},
		{"", difference(nil, long), long, api.OK}, {"", difference(nil, long+"x"), "", api.ErrMany}, {"x", difference([]int{0, 1}, long, ""), "", api.ErrMany}, {"x", difference([]int{0, 1}, long[1:], ""), long, api.OK}, {"x", difference([]int{0, 1, 9, 9}, long, "", ""), "", api.ErrRange},
		{long + "x", difference([]int{0, 65537}, "", ""), "", api.ErrMany}, {long + "y", difference([]int{65536, 1}, "", ""), "y", api.OK}, {long, wire.Ints(many) + wire.Texts(make([]string, 40001)), "", api.ErrMany},
	} {
		if got, e := Apply(x.base, x.d); got != x.want || e != x.e {
			t.Errorf("call %d: %d bytes, %v", k, len(got), e)
		}
	}
}
