package lines

import (
	"fmt"
	"math"
	"math/rand"
	"slices"
	"testing"

	"abugida/api"
)

func message(text string, from, to int) api.Message {
	return api.Message{From: from, To: to, Text: text}
}

func expect(t *testing.T, l *Lines, text string, at int) {
	t.Helper()
	m, time, ok := l.Next()
	if text == "" {
		if ok || time != 0 || m != (api.Message{}) {
			t.Errorf("%v at %d, not nothing", m, time)
		}
	} else if !ok || m.Text != text || time != at {
		t.Errorf("%v at %d %v, not %s at %d", m, time, ok, text, at)
	}
}

// P34.1, P34.2, P34.3
func TestExample(t *testing.T) {
	script := []api.Trouble{{Lost: true}, {Copies: 2, Delay: 5}, {Copies: 1, Delay: 1}}
	l := New(2, script)
	script[1].Lost = true
	expect(t, l, "", 0)
	for _, s := range []string{"a", "b", "c", "d"} {
		l.Send(0, message(s, 0, 1))
	}
	expect(t, l, "d", 0)
	expect(t, l, "c", 1)
	expect(t, l, "b", 5)
	expect(t, l, "b", 6)
	expect(t, l, "", 0)
	l.Send(3, message("e", 0, 2))
	expect(t, l, "", 0)
	l.Send(-7, message("f", 0, 0))
	expect(t, l, "f", 0)
	expect(t, l, "", 0)
}

// P34.2
func TestBounds(t *testing.T) {
	l := New(3, []api.Trouble{{Copies: -4}, {Copies: 0, Delay: -9}, {Copies: 100, Delay: math.MaxInt}, {Lost: true, Copies: 3}, {Copies: 1, Delay: api.MaxValue}, {Copies: 2}, {Copies: 2}, {Copies: 2}})
	l.Send(math.MinInt, message("a", 2, 2))
	expect(t, l, "a", 0)
	expect(t, l, "", 0)
	l.Send(4, message("b", 0, 1))
	expect(t, l, "b", 4)
	expect(t, l, "", 0)
	l.Send(math.MaxInt, message("c", 0, 1))
	for j := range 9 {
		expect(t, l, "c", 2*api.MaxValue+j)
	}
	expect(t, l, "", 0)
	l.Send(0, message("d", 0, 1))
	l.Send(api.MaxValue+1, message("e", 0, 1))
	expect(t, l, "e", 2*api.MaxValue)
	for _, m := range []api.Message{message("f", -1, 0), message("f", 0, 3), message("f", 3, 0)} {
		l.Send(0, m)
	}
	l.Send(0, message("g", 0, 1))
	expect(t, l, "g", 0)
	expect(t, l, "", 0)
	for _, n := range []int{0, -1, math.MinInt} {
		none := New(n, nil)
		none.Send(0, message("h", 0, 0))
		expect(t, none, "", 0)
	}
}

// P34.4
func TestNil(t *testing.T) {
	var none *Lines
	none.Send(0, message("a", 0, 0))
	expect(t, none, "", 0)
	var zero Lines
	zero.Send(0, message("a", 0, 0))
	expect(t, &zero, "", 0)
}

// P34.3, P34.5
func TestMessages(t *testing.T) {
	r := rand.New(rand.NewSource(34))
	type waiting struct{ time, number int }
	for range 500 {
		var script []api.Trouble
		for range r.Intn(20) {
			script = append(script, api.Trouble{Lost: r.Intn(4) == 0, Copies: r.Intn(5), Delay: r.Intn(6)})
		}
		l := New(3, script)
		var slow []waiting
		take := func() bool {
			m, time, ok := l.Next()
			if ok != (len(slow) > 0) {
				t.Fatalf("%v %v, %d wait", m, ok, len(slow))
			}
			if !ok {
				return false
			}
			i := 0
			for k, w := range slow {
				if w.time < slow[i].time || w.time == slow[i].time && w.number < slow[i].number {
					i = k
				}
			}
			if time != slow[i].time || m.Text != fmt.Sprint(slow[i].number) {
				t.Fatalf("%v at %d, not %v", m, time, slow[i])
			}
			slow = slices.Delete(slow, i, i+1)
			return true
		}
		for number := range 30 {
			at, from, to := r.Intn(9)-1, r.Intn(3), r.Intn(4)
			l.Send(at, message(fmt.Sprint(number), from, to))
			trouble := api.Trouble{Copies: 1}
			if number < len(script) {
				trouble = script[number]
			}
			for j := 0; j < max(1, trouble.Copies) && !trouble.Lost && to < 3; j++ {
				slow = append(slow, waiting{max(0, at) + trouble.Delay + j, number})
			}
			for range r.Intn(3) {
				take()
			}
		}
		for take() {
		}
	}
	l := New(2, nil)
	for k := range 50 {
		l.Send(7, message(fmt.Sprint(k), 0, 1))
	}
	for k := range 50 {
		expect(t, l, fmt.Sprint(k), 7)
	}
}
