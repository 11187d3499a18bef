package stack

import (
	"math"
	"math/rand"
	"slices"
	"strconv"
	"strings"
	"testing"

	"abugida/api"
)

func words() []string {
	return []string{"", "push", "pop", "dup", "swap", "add", "sub", "mul", "neg", "min", "max", "less", "round", "size", "axis", "getx", "gety", "setx", "sety", "at", "move", "load", "store", "if", "else", "end", "loop"}
}

// program reads a program as the chapter writes it.
func program(s string) []api.Ins {
	var p []api.Ins
	for _, line := range strings.Split(s, ",") {
		parts := strings.Fields(line)
		if len(parts) == 0 {
			continue
		}
		i := api.Ins{Op: slices.Index(words(), parts[0])}
		if len(parts) > 1 {
			i.N, _ = strconv.Atoi(parts[1])
		}
		p = append(p, i)
	}
	return p
}

func points() [][2]int { return [][2]int{{10, 20}, {30, 100}} }

// P12.1
func TestCheck(t *testing.T) {
	for _, x := range []struct {
		program      string
		axes, points int
		want         api.Errno
	}{
		{"", 0, 0, api.OK}, {"", -1, 0, api.ErrArg}, {"", 4, 0, api.ErrArg}, {"", 0, -1, api.ErrArg}, {"", 0, 41, api.ErrArg}, {"", 3, 40, api.OK},
		{strings.Repeat("pop,", 60), 0, 0, api.OK}, {strings.Repeat("pop,", 61), 0, 0, api.ErrMany}, {strings.Repeat("pop 1,", 61), 0, 41, api.ErrArg},
		{"nothing", 0, 0, api.ErrOp}, {"pop 1", 0, 0, api.ErrOp}, {"if 1", 0, 0, api.ErrOp}, {"end 1", 0, 0, api.ErrOp}, {"else -1", 0, 0, api.ErrOp}, {"size 1", 0, 0, api.ErrOp}, {"at 1", 0, 9, api.ErrOp},
		{"push 1048576", 0, 0, api.OK}, {"push 1048577", 0, 0, api.ErrValue}, {"push -1048577", 0, 0, api.ErrValue},
		{"axis 0", 0, 0, api.ErrIndex}, {"axis 1", 2, 0, api.OK}, {"axis -1", 2, 0, api.ErrIndex}, {"axis 2", 2, 0, api.ErrIndex},
		{"getx 2", 0, 2, api.ErrIndex}, {"gety -1", 0, 2, api.ErrIndex}, {"setx 2", 0, 2, api.ErrIndex}, {"sety 1", 0, 2, api.OK}, {"sety 2", 0, 2, api.ErrIndex},
		{"load 8", 0, 0, api.ErrSlot}, {"store -1", 0, 0, api.ErrSlot}, {"load 7, store 0", 0, 0, api.OK},
		{"loop 0, end", 0, 0, api.ErrLoop}, {"loop 9, end", 0, 0, api.ErrLoop}, {"loop 8, end", 0, 0, api.OK},
		{"if", 0, 0, api.ErrLoop}, {"end", 0, 0, api.ErrLoop}, {"loop 2, else, end", 0, 0, api.ErrLoop}, {"else", 0, 0, api.ErrLoop}, {"if, else, else, end", 0, 0, api.ErrLoop}, {"if, else, end, else", 0, 0, api.ErrLoop}, {"if, loop 2, else, end, end", 0, 0, api.ErrLoop},
		{"if, loop 2, if, else, end, end, else, loop 1, end, end", 0, 0, api.OK}, {"loop 1", 0, 0, api.ErrLoop}, {"if, end, end", 0, 0, api.ErrLoop},
		{"if, load 8, push 1048577", 0, 0, api.ErrSlot}, {"if, push 1048577, load 8", 0, 0, api.ErrValue},
	} {
		if got := Check(program(x.program), x.axes, x.points); got != x.want {
			t.Errorf("%q: %v", x.program, got)
		}
	}
	for _, op := range []int{-1, 27, math.MaxInt, math.MinInt} {
		if got := Check([]api.Ins{{Op: op}}, 0, 0); got != api.ErrOp {
			t.Errorf("operation %d: %v", op, got)
		}
	}
}

// P12.2
func TestExamples(t *testing.T) {
	for _, x := range []struct {
		program string
		want    [][2]int
		steps   int
	}{
		{"getx 0, push 5, add, setx 1", [][2]int{{10, 20}, {15, 100}}, 4},
		{"gety 1, round, sety 1", [][2]int{{10, 20}, {30, 128}}, 3},
		{"push 1, axis 0, size, mul, move", [][2]int{{10, 20}, {30, 108}}, 5},
		{"loop 3, push 0, push 7, move, end", [][2]int{{10, 41}, {30, 100}}, 13},
		{"push 0, if, push 9, setx 0, else, push 8, setx 0, end", [][2]int{{8, 20}, {30, 100}}, 5},
		{"push 3, if, push 9, setx 0, else, push 8, setx 0, end", [][2]int{{9, 20}, {30, 100}}, 5},
		{"push 0, if, push 9, setx 0, end", [][2]int{{10, 20}, {30, 100}}, 2},
		{"push -1, if, push 9, setx 0, end", [][2]int{{9, 20}, {30, 100}}, 5},
		{"", points(), 0},
		{"push 4, push 9, sub, setx 0, push 3, push 2, swap, sub, sety 0", [][2]int{{-5, -1}, {30, 100}}, 9},
		{"push 4, dup, add, neg, setx 0, push 4, push 9, min, sety 0", [][2]int{{-8, 4}, {30, 100}}, 9},
		{"push 4, push 9, max, setx 0, push 4, push 9, less, sety 0", [][2]int{{9, 1}, {30, 100}}, 8},
		{"push 9, push 9, less, setx 0, push 1, at, sety 0", [][2]int{{0, 100}, {30, 100}}, 7},
		{"load 3, setx 0, push 6, store 3, load 3, sety 0, size, setx 1", [][2]int{{0, 6}, {16, 100}}, 8},
		{"push 5, push 6, pop, setx 0, axis 0", [][2]int{{5, 20}, {30, 100}}, 5},
		{"push -32, round, setx 0, push -33, round, sety 0", [][2]int{{0, -64}, {30, 100}}, 6},
		{"loop 2, loop 3, push 0, push 1, move, end, end", [][2]int{{10, 26}, {30, 100}}, 29},
		{"loop 2, push 0, loop 2, push 1, pop, end, pop, end", points(), 21},
	} {
		got, steps, e := Run(program(x.program), 16, []int{32}, points())
		if e != api.OK || !slices.Equal(got, x.want) || steps != x.steps {
			t.Errorf("%q: %v, %d, %v", x.program, got, steps, e)
		}
	}
}

// P12.2
func TestFailures(t *testing.T) {
	full := strings.Repeat("push 1,", 16)
	for _, x := range []struct {
		program string
		want    api.Errno
	}{
		{"pop", api.ErrStack}, {"push 1, add", api.ErrStack}, {"push 1, swap", api.ErrStack}, {"dup", api.ErrStack}, {"if, end", api.ErrStack}, {"setx 0", api.ErrStack}, {"store 0", api.ErrStack}, {"push 1, move", api.ErrStack},
		{"push 2, at", api.ErrIndex}, {"push -1, at", api.ErrIndex}, {"push 2, push 1048576, move", api.ErrIndex}, {"push 1048576, dup, add", api.ErrValue}, {"push -1048576, push 1, sub", api.ErrValue},
		{"push 1048576, dup, mul", api.ErrValue}, {"push 1, push 1048500, move", api.ErrValue}, {"push 1048576, neg, setx 0", api.OK}, {full, api.OK}, {full + "dup", api.ErrStack}, {full + "size", api.ErrStack}, {full + "push 0", api.ErrStack}, {full + "add, load 0, load 0", api.ErrStack},
		{"loop 8, loop 8, loop 8, push 1, pop, end, end, end", api.ErrSteps}, {"if", api.ErrLoop}, {"getx 2", api.ErrIndex}, {"push 7, axis 1", api.ErrIndex},
	} {
		got, steps, e := Run(program(x.program), 16, []int{32}, points())
		if e != x.want || e != api.OK && (got != nil || steps != 0) {
			t.Errorf("%q: %v", x.program, e)
		}
	}
	// 8 * (8 * 9 + 2) + 1 = 593 steps, and 7 or 8 more.
	long := "loop 8, loop 8, push 1, pop, push 1, pop, push 1, pop, push 1, pop, end, end,"
	if _, steps, e := Run(program(long+strings.Repeat("push 1,", 7)), 4, nil, nil); e != api.OK || steps != 600 {
		t.Error("600 steps", steps, e)
	}
	if _, _, e := Run(program(long+strings.Repeat("push 1,", 7)+"pop"), 4, nil, nil); e != api.ErrSteps {
		t.Error("601 steps", e)
	}
	if _, _, e := Run(program(long+strings.Repeat("size,pop,", 3)+"size,mul"), 4, nil, nil); e != api.ErrSteps {
		t.Error("the step 601 fails otherwise, too", e)
	}
	for _, size := range []int{4, 32} {
		if got, _, e := Run(program("size, setx 0"), size, nil, points()); e != api.OK || got[0][0] != size {
			t.Errorf("size %d: %v %v", size, got, e)
		}
	}
	for k, e := range []api.Errno{
		errno(Run(nil, 3, nil, nil)), errno(Run(nil, 33, nil, nil)), errno(Run(nil, 4, []int{65}, nil)), errno(Run(nil, 4, make([]int, 4), nil)), errno(Run(nil, 4, nil, make([][2]int, 41))),
		errno(Run(nil, 4, nil, [][2]int{{0, 1048577}})), errno(Run(program("if"), 4, nil, [][2]int{{-1048577, 0}})),
	} {
		if e != api.ErrArg {
			t.Errorf("argument %d: %v", k, e)
		}
	}
}

func errno(_ [][2]int, _ int, e api.Errno) api.Errno { return e }

// body returns a random program without blocks.
func body(r *rand.Rand, n int) []api.Ins {
	var p []api.Ins
	for range n {
		i := api.Ins{Op: 1 + r.Intn(22)}
		switch i.Op {
		case api.OpPush:
			i.N = r.Intn(5) - 1
		case api.OpGetX, api.OpGetY, api.OpSetX, api.OpSetY:
			i.N = r.Intn(2)
		case api.OpLoad, api.OpStore:
			i.N = r.Intn(8)
		}
		if r.Intn(2) == 0 {
			i = api.Ins{Op: api.OpPush, N: r.Intn(300) - 100}
		}
		p = append(p, i)
	}
	return p
}

// P12.3, P12.4, P12.5, P12.6
func TestPrograms(t *testing.T) {
	r := rand.New(rand.NewSource(12))
	ok := 0
	for range 20000 {
		p := body(r, 1+r.Intn(8))
		given := points()
		got, steps, e := Run(p, 9, []int{5}, given)
		if !slices.Equal(given, points()) {
			t.Fatal("the argument has changed")
		}
		if e == api.OK {
			ok++
			if steps != len(p) {
				t.Fatalf("%v: %d steps", p, steps)
			}
			for k := range got {
				named := func(ops ...int) bool {
					return slices.ContainsFunc(p, func(i api.Ins) bool { return i.Op == api.OpMove || slices.Contains(ops, i.Op) && i.N == k })
				}
				if got[k][0] != given[k][0] && !slices.ContainsFunc(p, func(i api.Ins) bool { return i.Op == api.OpSetX && i.N == k }) || got[k][1] != given[k][1] && !named(api.OpSetY) {
					t.Fatalf("%v: the point %d moves", p, k)
				}
			}
		}
		n := 1 + r.Intn(6)
		looped := append(append([]api.Ins{{Op: api.OpLoop, N: n}}, p...), api.Ins{Op: api.OpEnd})
		var flat []api.Ins
		for range n {
			flat = append(flat, p...)
		}
		a, m, e1 := Run(looped, 9, []int{5}, given)
		b, k, e2 := Run(flat, 9, []int{5}, given)
		if !slices.Equal(a, b) || e1 != e2 || e1 == api.OK && m != k+1+n {
			t.Fatalf("%v, %d times: %v %d %v, %v %d %v", p, n, a, m, e1, b, k, e2)
		}
		other := body(r, r.Intn(8))
		chosen := append([]api.Ins{{Op: api.OpPush, N: n % 2}, {Op: api.OpIf}}, p...)
		chosen = append(append(append(chosen, api.Ins{Op: api.OpElse}), other...), api.Ins{Op: api.OpEnd})
		want := other
		if n%2 == 1 {
			want = p
		}
		a, _, e1 = Run(chosen, 9, []int{5}, given)
		b, _, e2 = Run(want, 9, []int{5}, given)
		if !slices.Equal(a, b) || e1 != e2 {
			t.Fatalf("%v: %v %v, not %v %v", chosen, a, e1, b, e2)
		}
	}
	if ok < 1000 {
		t.Error("too few programs do not fail", ok)
	}
}
