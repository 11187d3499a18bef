package cluster

import (
	"math"
	"math/rand"
	"slices"
	"strings"
	"testing"

	"abugida/api"
	"abugida/chars"
)

func text(l ...byte) string { return string(l) }

func randomText(r *rand.Rand) string {
	some := []byte{10, 32, 33, 48, 65, 97, 104, 105, 128, 144, 160, 161, 184, 184, 186, 193, 200, 240, 241, 250}
	l := make([]byte, r.Intn(25))
	for i := range l {
		l[i] = some[r.Intn(len(some))]
	}
	return string(l)
}

// slowSplit follows the words of the chapter.
func slowSplit(s string) []api.Span {
	var l []api.Span
	for i := range len(s) {
		begins := i == 0 || chars.Class(int(s[i-1])) == api.ChLine
		if !begins {
			begins = i-l[len(l)-1].From == 6
			begins = begins || !chars.Extends(int(s[i])) && !(chars.Class(int(s[i])) == api.ChConsonant && chars.Class(int(s[i-1])) == api.ChVirama)
		}
		if begins {
			l = append(l, api.Span{From: i})
		}
		l[len(l)-1].To = i + 1
	}
	return l
}

// P6.1
func TestSplit(t *testing.T) {
	for _, x := range []struct {
		text string
		want []api.Span
	}{
		{text(65, 97, 97, 66), []api.Span{{From: 0, To: 3}, {From: 3, To: 4}}},
		{text(160, 184, 161, 193, 160), []api.Span{{From: 0, To: 4}, {From: 4, To: 5}}},
		{text(160, 184, 65), []api.Span{{From: 0, To: 2}, {From: 2, To: 3}}},
		{text(97, 97, 65), []api.Span{{From: 0, To: 2}, {From: 2, To: 3}}},
		{text(65, 10, 97, 10, 10), []api.Span{{From: 0, To: 1}, {From: 1, To: 2}, {From: 2, To: 3}, {From: 3, To: 4}, {From: 4, To: 5}}},
		{text(65, 97, 97, 97, 97, 97, 97, 97), []api.Span{{From: 0, To: 6}, {From: 6, To: 8}}},
		{text(160, 184, 161, 184, 160, 184, 161, 193), []api.Span{{From: 0, To: 6}, {From: 6, To: 8}}},
		{"", nil},
	} {
		if got := Split(x.text); !slices.Equal(got, x.want) {
			t.Errorf("%v: %v", []byte(x.text), got)
		}
	}
	if got := Split(strings.Repeat("A", 300000)); len(got) != 300000 {
		t.Error("a long text")
	}
}

// P6.1, P6.2, P6.4, P6.5
func TestClustersOfTexts(t *testing.T) {
	r := rand.New(rand.NewSource(6))
	for range 3000 {
		s := randomText(r)
		l := Split(s)
		if !slices.Equal(l, slowSplit(s)) {
			t.Fatalf("%v: %v", []byte(s), l)
		}
		place := 0
		for k, c := range l {
			if c.From != place || c.To <= c.From || c.To-c.From > 6 {
				t.Fatalf("%v: %v", []byte(s), l)
			}
			for ; place < c.To; place++ {
				if At(s, place) != k {
					t.Fatalf("%v: At of %d", []byte(s), place)
				}
				consonant := chars.Class(int(s[place])) == api.ChConsonant && place > 0 && chars.Class(int(s[place-1])) == api.ChVirama
				if place > c.From && !chars.Extends(int(s[place])) && !consonant {
					t.Fatalf("%v: %d within a cluster", []byte(s), place)
				}
				if chars.Class(int(s[place])) == api.ChLine && c.To-c.From > 1 {
					t.Fatalf("%v: a line within a cluster", []byte(s))
				}
			}
			if !chars.Extends(int(s[c.From])) && Base(s, c) != c.From {
				t.Fatalf("%v: Base of %v", []byte(s), c)
			}
		}
		if place != len(s) || At(s, len(s)) != -1 || At(s, -1) != -1 {
			t.Fatalf("%v: the end", []byte(s))
		}
	}
}

// P6.2, P6.3
func TestAtAndBase(t *testing.T) {
	s := text(160, 184, 161, 193, 160)
	for i, want := range []int{0, 0, 0, 0, 1, -1} {
		if At(s, i) != want {
			t.Errorf("At of %d", i)
		}
	}
	if At(s, math.MinInt) != -1 || At(s, math.MaxInt) != -1 || At("", 0) != -1 {
		t.Error("no places")
	}
	for _, x := range []struct {
		text           string
		from, to, want int
	}{
		{s, 1, 4, 2}, {s, 0, 4, 0}, {text(97, 97, 65), 0, 2, 0}, {text(97, 97, 65), 0, 3, 2}, {text(97, 97, 65), 1, 2, 1}, {s, 2, 2, -1}, {s, 3, 2, -1},
		{s, -1, 2, -1}, {s, 0, 6, -1}, {s, 4, 5, 4}, {"", 0, 0, -1}, {s, math.MinInt, math.MaxInt, -1},
	} {
		if got := Base(x.text, api.Span{From: x.from, To: x.to}); got != x.want {
			t.Errorf("Base of %d to %d: %d", x.from, x.to, got)
		}
	}
}

// P6.6
func TestParts(t *testing.T) {
	r := rand.New(rand.NewSource(7))
	for range 1000 {
		a, b := randomText(r)+"\n", randomText(r)
		want := Split(a)
		for _, c := range Split(b) {
			want = append(want, api.Span{From: c.From + len(a), To: c.To + len(a)})
		}
		if !slices.Equal(Split(a+b), want) {
			t.Fatalf("%v and %v", []byte(a), []byte(b))
		}
		first := Split(a[:len(a)-1])
		if more := Split(a[:len(a)-1] + "A"); len(first) > 0 && !slices.Equal(more[:len(first)], first) {
			t.Fatalf("%v with a letter behind it", []byte(a))
		}
	}
}
