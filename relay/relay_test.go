package relay

import (
	"fmt"
	"math/rand"
	"reflect"
	"slices"
	"strings"
	"testing"

	"abugida/api"
	"abugida/patch"
	"abugida/wire"
)

func key(kind, n, region int) api.Key { return api.Key{Kind: kind, N: n, Region: region} }

func example(n int, body string) api.Patch {
	return api.Patch{Font: "f", Version: 2, Key: key(2, n, 0), Body: body, Index: n, Proof: []string{"12345678"}}
}

// P35.1, P35.7
func TestAsk(t *testing.T) {
	if got := Ask("f", 2, []api.Key{key(2, 5, 0)}); got != "\x06ask\x02f\x04\x02\x04\x0a\x00" {
		t.Errorf("%x", got)
	}
	seen := map[string]bool{}
	n := 0
	for _, font := range []string{"", "f", "fo"} {
		for _, version := range []int{-1, 2} {
			for _, keys := range [][]api.Key{nil, {key(1, 2, 3)}, {key(1, 2, 3), key(-1, 300, 0)}, {key(1, 3, 2)}} {
				s := Ask(font, version, keys)
				f, v, k, ok := Asked(s)
				if !ok || f != font || v != version || !slices.Equal(k, keys) {
					t.Errorf("%q %d %v: %q %d %v", font, version, keys, f, v, k)
				}
				for cut := range len(s) {
					if f, v, k, ok := Asked(s[:cut]); ok || f != "" || v != 0 || k != nil {
						t.Errorf("%x cut at %d", s, cut)
					}
				}
				if _, _, _, ok := Asked(s + "\x00"); ok {
					t.Errorf("%x with a byte more", s)
				}
				if _, ok := Tell(s); ok {
					t.Errorf("%x tells", s)
				}
				seen[s] = true
				n++
			}
		}
	}
	if len(seen) != n {
		t.Error("two requests with one text")
	}
	for _, s := range []string{"\x06asl\x02f\x04\x00", "\x06ask\x02f\x04\x01", "\x06ask\x02f\x04\xfe\xff\xff\xff\xff\xff\xff\xff\xff\x01", "\x08told\x00", ""} {
		if _, _, _, ok := Asked(s); ok {
			t.Errorf("%x asks", s)
		}
	}
}

// P35.2, P35.7
func TestTold(t *testing.T) {
	a, b := example(1, "x"), api.Patch{}
	for _, l := range [][]api.Patch{nil, {a}, {a, b, a}, {b}} {
		s := Told(l)
		got, ok := Tell(s)
		if !ok || len(got) != len(l) || Told(got) != s {
			t.Errorf("%v: %v %v", l, got, ok)
		}
		for k := range got {
			if patch.Encode(got[k]) != patch.Encode(l[k]) {
				t.Errorf("%v: %v", l, got)
			}
		}
		for cut := range len(s) {
			if got, ok := Tell(s[:cut]); ok || got != nil {
				t.Errorf("%x cut at %d", s, cut)
			}
		}
		if _, ok := Tell(s + "\x00"); ok {
			t.Errorf("%x with a byte more", s)
		}
		if _, _, _, ok := Asked(s); ok {
			t.Errorf("%x asks", s)
		}
	}
	if got := Told(nil); got != "\x08told\x00" {
		t.Errorf("%x", got)
	}
	for _, s := range []string{wire.Text("told") + wire.Texts([]string{""}), wire.Text("told") + wire.Texts([]string{patch.Encode(a), patch.Encode(a) + "\x00"}), wire.Text("tell") + wire.Texts(nil), Told([]api.Patch{{Body: strings.Repeat("x", 131072)}})} {
		if got, ok := Tell(s); ok || got != nil {
			t.Errorf("%.40q tells", s)
		}
	}
	if Told([]api.Patch{a, b}) == Told([]api.Patch{b, a}) {
		t.Error("the order")
	}
}

func told(t *testing.T, r *Relay, from int, keys ...api.Key) []api.Patch {
	t.Helper()
	l := r.Take(api.Message{From: from, To: 3, Text: Ask("f", 2, keys)})
	if len(l) != 1 || l[0].From != 3 || l[0].To != from {
		t.Fatal(l)
	}
	patches, ok := Tell(l[0].Text)
	if !ok {
		t.Fatal("no patches")
	}
	return patches
}

// P35.3, P35.4, P35.5
func TestExample(t *testing.T) {
	for _, n := range []int{0, -1} {
		if New(3, n) != nil {
			t.Errorf("budget %d", n)
		}
	}
	if New(3, 1) == nil {
		t.Error("the least budget")
	}
	r := New(3, 1000)
	p, q := example(5, "body"), example(5, "another body")
	if r.Many() != 0 || r.Keep(p) != api.OK || r.Many() != 1 {
		t.Error("Keep")
	}
	p.Proof[0] = "changed!"
	p = example(5, "body")
	if got := told(t, r, 1, p.Key); !reflect.DeepEqual(got, []api.Patch{p}) {
		t.Error(got)
	}
	if l := r.Take(api.Message{From: 1, To: 3, Text: Ask("f", 1, []api.Key{p.Key})}); len(l) != 1 || l[0].Text != Told(nil) {
		t.Error("another version", l)
	}
	if l := r.Take(api.Message{From: 1, To: 3, Text: Ask("g", 2, []api.Key{p.Key})}); len(l) != 1 || l[0].Text != Told(nil) {
		t.Error("another font", l)
	}
	if len(told(t, r, 1, key(2, 6, 0))) != 0 || len(told(t, r, 1)) != 0 || len(told(t, r, 1, key(1, 1, 1), p.Key, p.Key)) != 1 {
		t.Error("other keys")
	}
	for _, m := range []api.Message{{From: 1, To: 4, Text: Ask("f", 2, []api.Key{p.Key})}, {From: 1, To: 3, Text: "x"}, {From: 1, To: 3}, {From: 1, To: 4, Text: Told([]api.Patch{q})}, {From: 1, To: 3, Text: Told([]api.Patch{q}) + "\x00"}} {
		if l := r.Take(m); len(l) > 0 {
			t.Errorf("%v: %v", m, l)
		}
	}
	if got := told(t, r, 1, p.Key); !reflect.DeepEqual(got, []api.Patch{p}) {
		t.Error("something else was kept", got)
	}
	if l := r.Take(api.Message{From: 0, To: 3, Text: Told([]api.Patch{q})}); len(l) != 0 || r.Many() != 1 {
		t.Error("a rival", l, r.Many())
	}
	if got := told(t, r, -7, p.Key); !reflect.DeepEqual(got, []api.Patch{q}) {
		t.Error(got)
	}
	other := example(6, "xx")
	size := len(patch.Encode(p)) + len(patch.Encode(other))
	small := New(3, size-1)
	if small.Keep(p) != api.OK || small.Keep(other) != api.OK || small.Many() != 1 || len(told(t, small, 1, p.Key)) != 0 || len(told(t, small, 1, other.Key)) != 1 {
		t.Error("a small budget")
	}
	both := New(3, size)
	if both.Keep(p) != api.OK || both.Keep(other) != api.OK || both.Many() != 2 {
		t.Error("a budget for two")
	}
	tiny := New(3, len(patch.Encode(p))-1)
	if tiny.Keep(p) != api.ErrFull || tiny.Keep(other) != api.OK || tiny.Keep(p) != api.ErrFull || tiny.Many() != 1 {
		t.Error("a patch that is too great")
	}
	tiny.Take(api.Message{To: 3, Text: Told([]api.Patch{p, example(7, "yy"), p})})
	if tiny.Many() != 1 || len(told(t, tiny, 1, key(2, 7, 0))) != 1 {
		t.Error("patches that are too great are left out")
	}
}

// P35.3, P35.4, P35.5
func TestNil(t *testing.T) {
	var none *Relay
	for _, r := range []*Relay{none, {}} {
		if r.Many() != 0 || r.Keep(example(1, "")) != api.ErrArg || len(r.Take(api.Message{Text: Ask("f", 2, nil)})) != 0 {
			t.Error("a zero Relay")
		}
	}
}

// P35.4, P35.5, P35.6
func TestRelays(t *testing.T) {
	r := rand.New(rand.NewSource(35))
	var all []api.Key
	for n := range 5 {
		all = append(all, key(2, n, 0))
	}
	for range 200 {
		budget := 40 + r.Intn(300)
		relay := New(3, budget)
		var slow []api.Patch
		sum := func() (n int) {
			for _, p := range slow {
				n += len(patch.Encode(p))
			}
			return n
		}
		for step := range 50 {
			p := example(r.Intn(5), fmt.Sprint(step)+strings.Repeat("z", r.Intn(60)))
			if r.Intn(3) == 0 {
				p.Base = key(2, 9, 0)
			}
			before := told(t, relay, 0, all...)
			if again := told(t, relay, 0, all...); !reflect.DeepEqual(again, before) {
				t.Fatal("a relay that is asked changes")
			}
			size := len(patch.Encode(p))
			want := api.OK
			if size > budget {
				want = api.ErrFull
			} else {
				slow = slices.DeleteFunc(slow, func(x api.Patch) bool { return rivalOf(x) == rivalOf(p) })
				for sum()+size > budget {
					slow = slow[1:]
				}
				slow = append(slow, p)
			}
			if e := relay.Keep(p); e != want {
				t.Fatalf("Keep: %v, not %v", e, want)
			}
			if got := told(t, relay, 0, all...); len(got) != len(slow) || len(got) > 0 && !reflect.DeepEqual(got, slow) || relay.Many() != len(slow) {
				t.Fatalf("%v, not %v", got, slow)
			}
		}
	}
}
