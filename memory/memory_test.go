package memory

import (
	"math"
	"math/rand"
	"slices"
	"testing"

	"abugida/api"
)

func owned(n int) api.Owned {
	return api.Owned{Font: n % 3, Key: api.Key{Kind: n, N: n / 2, Region: -n}}
}

// P31.1
func TestNew(t *testing.T) {
	for _, n := range []int{-1, math.MinInt, 1073741825, math.MaxInt} {
		if New(n) != nil {
			t.Errorf("budget %d", n)
		}
	}
	for _, n := range []int{0, 1073741824} {
		m := New(n)
		if m == nil || m.Used() != 0 || m.List() != nil {
			t.Errorf("budget %d", n)
		}
	}
}

// P31.2, P31.3, P31.4, P31.5
func TestExample(t *testing.T) {
	m := New(10)
	a, b, c, d := owned(1), owned(2), owned(3), owned(4)
	put := func(o api.Owned, size int, want api.Errno, gone ...api.Owned) {
		t.Helper()
		if got, e := m.Put(o, size); e != want || !slices.Equal(got, gone) {
			t.Errorf("Put of %v with %d: %v %v", o, size, got, e)
		}
	}
	put(a, 4, api.OK)
	put(b, 3, api.OK)
	put(c, 3, api.OK)
	if m.Used() != 10 || !m.Use(a) || m.Use(d) {
		t.Error("Use")
	}
	put(d, 4, api.OK, b, c)
	if !slices.Equal(m.List(), []api.Owned{a, d}) || m.Used() != 8 || m.Pin(a, true) != api.OK {
		t.Error(m.List(), m.Used())
	}
	put(b, 7, api.ErrFull)
	if !slices.Equal(m.List(), []api.Owned{a, d}) {
		t.Error("ErrFull changes something", m.List())
	}
	put(b, 6, api.OK, d)
	put(a, 11, api.ErrFull)
	put(a, 10, api.OK, b)
	if m.Drop(a) != api.ErrPinned {
		t.Error("a is pinned still")
	}
	put(a, 4, api.OK)
	put(b, 6, api.OK)
	if m.Drop(a) != api.ErrPinned || m.Drop(d) != api.ErrNone || m.Pin(a, false) != api.OK || m.Drop(a) != api.OK {
		t.Error("Drop")
	}
	put(b, 10, api.OK)
	if m.Used() != 10 || m.Pin(a, true) != api.ErrNone {
		t.Error(m.Used())
	}
	put(c, 0, api.OK)
	put(c, 65537, api.ErrArg)
	put(c, -1, api.ErrArg)
	if n := New(1 << 20); n != nil {
		if _, e := n.Put(a, 65536); e != api.OK {
			t.Error("65536 bytes", e)
		}
	}
}

// P31.2, P31.5
func TestNil(t *testing.T) {
	var none *Memory
	for _, m := range []*Memory{none, {}} {
		_, e := m.Put(owned(1), 1)
		if e != api.ErrArg || m.Use(owned(1)) || m.Pin(owned(1), true) != api.ErrNone || m.Drop(owned(1)) != api.ErrNone || m.Used() != 0 || m.List() != nil {
			t.Error("a zero Memory")
		}
	}
}

// A slow memory follows the words of the chapter: its keys are listed from the oldest one on.
type slow struct {
	budget int
	keys   []entry
}

func (s *slow) sum(of func(entry) bool) int {
	n := 0
	for _, e := range s.keys {
		if of(e) {
			n += e.size
		}
	}
	return n
}

func (s *slow) put(o api.Owned, size int) ([]api.Owned, api.Errno) {
	if size+s.sum(func(e entry) bool { return e.pinned && e.key != o }) > s.budget {
		return nil, api.ErrFull
	}
	var gone []api.Owned
	for size+s.sum(func(e entry) bool { return e.key != o }) > s.budget {
		i := slices.IndexFunc(s.keys, func(e entry) bool { return e.key != o && !e.pinned })
		gone = append(gone, s.keys[i].key)
		s.keys = slices.Delete(s.keys, i, i+1)
	}
	this := entry{key: o, size: size}
	if i := s.find(o); i >= 0 {
		this.pinned = s.keys[i].pinned
		s.keys = slices.Delete(s.keys, i, i+1)
	}
	s.keys = append(s.keys, this)
	return gone, api.OK
}

func (s *slow) find(o api.Owned) int {
	return slices.IndexFunc(s.keys, func(e entry) bool { return e.key == o })
}

// P31.2 to P31.6
func TestMemories(t *testing.T) {
	r := rand.New(rand.NewSource(31))
	for range 300 {
		budget := r.Intn(60)
		m, s := New(budget), &slow{budget: budget}
		for range 80 {
			o := owned(r.Intn(9))
			i := s.find(o)
			switch r.Intn(6) {
			case 0, 1, 2:
				size := r.Intn(25)
				before := m.List()
				gone, e := m.Put(o, size)
				want, f := s.put(o, size)
				if e != f || !slices.Equal(gone, want) {
					t.Fatalf("Put of %v with %d: %v %v, not %v %v", o, size, gone, e, want, f)
				}
				for _, g := range gone {
					if k := s.find(o); m.Use(g) || g == o || k < 0 {
						t.Fatalf("%v is still there", g)
					}
				}
				for _, stays := range s.keys {
					if len(gone) > 0 && stays.key != o && !stays.pinned && slices.Index(before, stays.key) < slices.Index(before, gone[len(gone)-1]) {
						t.Fatalf("%v is older than what was given up", stays.key)
					}
				}
			case 3:
				if m.Use(o) != (i >= 0) {
					t.Fatal("Use")
				}
				if i >= 0 {
					e := s.keys[i]
					s.keys = append(slices.Delete(s.keys, i, i+1), e)
				}
			case 4:
				on := r.Intn(2) == 0
				if (m.Pin(o, on) == api.OK) != (i >= 0) {
					t.Fatal("Pin")
				}
				if i >= 0 {
					s.keys[i].pinned = on
				}
			case 5:
				want := api.ErrNone
				if i >= 0 && s.keys[i].pinned {
					want = api.ErrPinned
				} else if i >= 0 {
					want = api.OK
					s.keys = slices.Delete(s.keys, i, i+1)
				}
				if got := m.Drop(o); got != want {
					t.Fatalf("Drop: %v, not %v", got, want)
				}
			}
			var list []api.Owned
			for _, e := range s.keys {
				list = append(list, e.key)
			}
			if !slices.Equal(m.List(), list) || m.Used() != s.sum(func(entry) bool { return true }) || m.Used() > budget {
				t.Fatalf("%v with %d, not %v", m.List(), m.Used(), list)
			}
		}
	}
}
