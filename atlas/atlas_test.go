package atlas

import (
	"fmt"
	"math"
	"math/rand"
	"slices"
	"testing"

	"abugida/api"
	"abugida/scan"
)

func full(w, h int) api.Bitmap {
	b := api.Bitmap{Width: w, Height: h}
	for range h {
		b.Rows = append(b.Rows, 1<<w-1)
	}
	return b
}

func rect(x, y, w, h int) api.Rect { return api.Rect{X: x, Y: y, W: w, H: h} }

// P32.1
func TestNew(t *testing.T) {
	for _, x := range [][2]int{{0, 1}, {1, 0}, {129, 1}, {1, 129}, {-1, 5}, {math.MaxInt, math.MinInt}} {
		if New(x[0], x[1]) != nil {
			t.Errorf("%v", x)
		}
	}
	if a := New(128, 1); a == nil || New(1, 128) == nil || a.Names() != nil {
		t.Error("a new atlas")
	}
}

// P32.2, P32.3
func TestExample(t *testing.T) {
	a := New(4, 3)
	put := func(name string, b api.Bitmap, want api.Errno, removed ...string) {
		t.Helper()
		if got, e := a.Put(name, b); e != want || !slices.Equal(got, removed) {
			t.Errorf("Put of %s: %v %v", name, got, e)
		}
	}
	where := func(name string, want api.Rect) {
		t.Helper()
		if got, ok := a.Rect(name); got != want || !ok {
			t.Errorf("%s is at %v", name, got)
		}
	}
	put("a", full(3, 2), api.OK)
	put("b", full(1, 1), api.OK)
	put("c", full(4, 1), api.OK)
	where("a", rect(0, 0, 3, 2))
	where("b", rect(3, 0, 1, 1))
	where("c", rect(0, 2, 4, 1))
	if got, ok := a.Get("a"); !ok || !scan.Same(got, full(3, 2)) {
		t.Error("Get of a", got)
	} else if got.Rows[0] = 0; true {
		if again, _ := a.Get("a"); again.Rows[0] != 7 {
			t.Error("the bitmap is shared")
		}
	}
	put("d", full(2, 1), api.OK, "b", "c")
	where("d", rect(0, 2, 2, 1))
	if got := a.Names(); !slices.Equal(got, []string{"a", "d"}) {
		t.Error(got)
	}
	put("e", full(5, 1), api.ErrFull)
	put("e", full(1, 4), api.ErrFull)
	put("a", full(1, 1), api.ErrTwice)
	if got := a.Names(); !slices.Equal(got, []string{"a", "d"}) {
		t.Error("ErrTwice uses it", got)
	}
	put("a", full(3, 2), api.OK)
	if got := a.Names(); !slices.Equal(got, []string{"d", "a"}) {
		t.Error("Put does not use it", got)
	}
	put("", full(1, 1), api.ErrArg)
	put("f", api.Bitmap{Width: 1}, api.ErrArg)
	put("", api.Bitmap{}, api.ErrArg)
	put("empty", api.Bitmap{}, api.OK)
	where("empty", api.Rect{})
	put("g", full(4, 3), api.OK, "d", "a")
	put("moved", scan.Move(full(2, 2), -9, 5), api.OK, "empty", "g")
	where("moved", rect(0, 0, 2, 2))
	put("moved", full(2, 2), api.ErrTwice)
	if _, ok := a.Get("g"); ok {
		t.Error("Get of what was removed")
	}
	if _, ok := a.Rect("g"); ok {
		t.Error("Rect of what was removed")
	}
}

// P32.5
func TestNil(t *testing.T) {
	var none *Atlas
	for _, a := range []*Atlas{none, {}} {
		_, e := a.Put("a", full(1, 1))
		b, get := a.Get("a")
		r, is := a.Rect("a")
		if e != api.ErrArg || get || is || a.Names() != nil || !scan.Same(b, api.Bitmap{}) || r != (api.Rect{}) {
			t.Error("a zero Atlas")
		}
	}
}

// P32.4, P32.8
func TestName(t *testing.T) {
	set := api.Setting{Size: 8, At: []int{-1, 64}, Features: 32}
	if got := Name("ab", 3, []int{5}, set); got != "\x04ab\x06\x02\x0a\x10\x04\x01\x80\x01" {
		t.Errorf("%x", got)
	}
	other := set
	other.Features = 0
	if Name("ab", 3, nil, set) != Name("ab", 3, nil, other) {
		t.Error("Features play a part")
	}
	seen := map[string]bool{}
	n := 0
	for _, font := range []string{"", "a", "a\x02"} {
		for _, version := range []int{1, 2} {
			for _, glyphs := range [][]int{nil, {1}, {1, 2}, {2, 1}} {
				for _, size := range []int{4, 5} {
					for _, at := range [][]int{nil, {0}, {0, 0}, {1, 0}} {
						n++
						seen[Name(font, version, glyphs, api.Setting{Size: size, At: at})] = true
					}
				}
			}
		}
	}
	if len(seen) != n {
		t.Error("two calls with one name", len(seen), n)
	}
}

// P32.2, P32.3, P32.6, P32.7
func TestAtlases(t *testing.T) {
	r := rand.New(rand.NewSource(32))
	type kept struct {
		name string
		b    api.Bitmap
		rect api.Rect
	}
	for range 200 {
		w, h := 1+r.Intn(12), 1+r.Intn(12)
		a := New(w, h)
		var slow []kept // from the oldest one on
		place := func(bw, bh int) (api.Rect, bool) {
			for y := 0; y+bh <= h; y++ {
				for x := 0; x+bw <= w; x++ {
					free := true
					for _, k := range slow {
						c := k.rect
						free = free && (c.W == 0 || x+bw <= c.X || c.X+c.W <= x || y+bh <= c.Y || c.Y+c.H <= y)
					}
					if free {
						return rect(x, y, bw, bh), true
					}
				}
			}
			return api.Rect{}, false
		}
		for range 60 {
			name := fmt.Sprint(r.Intn(12))
			i := slices.IndexFunc(slow, func(k kept) bool { return k.name == name })
			if r.Intn(3) == 0 {
				b, ok := a.Get(name)
				if ok != (i >= 0) || ok && !scan.Same(b, slow[i].b) {
					t.Fatal("Get", name)
				}
				if ok {
					slow = append(slices.Delete(slices.Clone(slow), i, i+1), slow[i])
				}
			} else {
				b := full(1+r.Intn(8), 1+r.Intn(8))
				if r.Intn(8) == 0 {
					b = api.Bitmap{}
				} else if i >= 0 && r.Intn(2) == 0 {
					b = slow[i].b
				}
				got, e := a.Put(name, b)
				var removed []string
				want := api.OK
				switch {
				case i >= 0 && scan.Same(slow[i].b, b):
					slow = append(slices.Delete(slices.Clone(slow), i, i+1), slow[i])
				case i >= 0:
					want = api.ErrTwice
				case b.Width > w || b.Height > h:
					want = api.ErrFull
				default:
					at, ok := place(b.Width, b.Height)
					if b.Width == 0 {
						at, ok = api.Rect{}, true
					}
					for !ok {
						removed = append(removed, slow[0].name)
						slow = slow[1:]
						at, ok = place(b.Width, b.Height)
					}
					slow = append(slow, kept{name, b, at})
				}
				if e != want || !slices.Equal(got, removed) {
					t.Fatalf("Put of %s: %v %v, not %v %v", name, got, e, removed, want)
				}
			}
			var names []string
			for _, k := range slow {
				names = append(names, k.name)
				if got, ok := a.Rect(k.name); !ok || got != k.rect {
					t.Fatalf("%s is at %v, not %v", k.name, got, k.rect)
				}
			}
			if !slices.Equal(a.Names(), names) {
				t.Fatal(a.Names(), names)
			}
		}
	}
}
