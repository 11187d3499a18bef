package bound

import (
	"abugida/api"
	"abugida/fix"
)

// A span is the range of a number: its least and its greatest value.
type span [2]int

func join(a, b span) span { return span{min(a[0], b[0]), max(a[1], b[1])} }

// ends1 returns the range of what f gives for the ends of a.
func ends1(a span, f func(int) int) span {
	low, high := f(a[0]), f(a[1])
	return span{min(low, high), max(low, high)}
}

// ends2 returns the range of what f gives for one of the ends of a and one of the ends of b.
func ends2(a, b span, f func(int, int) int) span {
	first := span{f(a[0], b[0]), f(a[0], b[0])}
	for _, x := range a {
		for _, y := range b {
			first = join(first, span{f(x, y), f(x, y)})
		}
	}
	return first
}

// A state is what the ranged machine has at a place of the program.
type state struct {
	place, steps int
	stack        []span
	slots        [api.MaxStore]span
	points       [][2]span
}

// clone returns a state that can go its own way.
func (m *state) clone() *state {
	other := *m
	other.stack = make([]span, len(m.stack))
	copy(other.stack, m.stack)
	other.points = make([][2]span, len(m.points))
	copy(other.points, m.points)
	return &other
}

// become takes what two ways have led to; their stacks have the same height.
func (m *state) become(a, b *state) {
	*m = *a
	m.steps = max(a.steps, b.steps)
	for i := range m.stack {
		m.stack[i] = join(a.stack[i], b.stack[i])
	}
	for i := range m.slots {
		m.slots[i] = join(a.slots[i], b.slots[i])
	}
	for i := range m.points {
		m.points[i] = [2]span{join(a.points[i][0], b.points[i][0]), join(a.points[i][1], b.points[i][1])}
	}
}

func (m *state) take() span {
	a := m.stack[len(m.stack)-1]
	m.stack = m.stack[:len(m.stack)-1]
	return a
}

func (m *state) take2() (a, b span) {
	b = m.take()
	return m.take(), b
}

// A block is where an instruction that opens or parts one leads to.
type block struct{ otherwise, end, loop int }

// blocks returns for each OpIf where it goes on for 0, and its OpEnd; for each OpElse its OpEnd; for the OpEnd of an
// OpLoop this. The program is closed.
func blocks(p []api.Ins) map[int]block {
	all := map[int]block{}
	var open []int
	for i, ins := range p {
		switch ins.Op {
		case api.OpIf, api.OpLoop:
			open = append(open, i)
			all[i] = block{otherwise: -1}
		case api.OpElse:
			all[open[len(open)-1]] = block{otherwise: i}
		case api.OpEnd:
			opener := open[len(open)-1]
			open = open[:len(open)-1]
			if p[opener].Op == api.OpLoop {
				all[i] = block{loop: opener}
				continue
			}
			parting := all[opener].otherwise
			if parting < 0 {
				parting = i
			}
			all[opener] = block{otherwise: parting, end: i}
			if parting < i {
				all[parting] = block{end: i}
			}
		}
	}
	return all
}

// A prover runs a program with ranges in place of numbers.
type prover struct {
	program    []api.Ins
	blocks     map[int]block
	done       map[int]int // how often the body of the OpLoop at a place has been done
	sizes      [2]int
	axes       [][2]int
	height     int // the greatest one of the stack
	operations map[int]operation
}

// An operation takes some ranges; do is asked only if they are there.
type operation struct {
	takes int
	do    func(m *state, n int) api.Errno
}

func (v *prover) give(m *state, l ...span) api.Errno {
	for _, a := range l {
		if !isSmall(a[:]...) {
			return api.ErrValue
		}
	}
	if len(m.stack)+len(l) > api.MaxStack {
		return api.ErrStack
	}
	m.stack = append(m.stack, l...)
	v.height = max(v.height, len(m.stack))
	return api.OK
}

// run does the program from the place of m on, up to the place stop.
func (v *prover) run(m *state, stop int) api.Errno {
	for ; m.place < stop; m.place++ {
		if m.steps++; m.steps > api.MaxSteps {
			return api.ErrSteps
		}
		ins := v.program[m.place]
		o := v.operations[ins.Op]
		if len(m.stack) < o.takes {
			return api.ErrStack
		}
		if e := o.do(m, ins.N); e != api.OK {
			return e
		}
	}
	return api.OK
}

// branch does an OpIf.
func (v *prover) branch(m *state) api.Errno {
	a := m.take()
	b := v.blocks[m.place]
	if a[0] > 0 || a[1] < 0 {
		return api.OK
	}
	if a == (span{}) {
		m.place = b.otherwise
		return api.OK
	}
	yes, no := m.clone(), m.clone()
	yes.place++
	no.place = b.otherwise + 1
	for _, way := range []*state{yes, no} {
		if e := v.run(way, b.end+1); e != api.OK {
			return e
		}
	}
	if len(yes.stack) != len(no.stack) {
		return api.ErrStack
	}
	m.become(yes, no)
	m.place = b.end
	return api.OK
}

// end does an OpEnd.
func (v *prover) end(m *state) {
	b, isLoop := v.blocks[m.place]
	if !isLoop {
		return
	}
	if v.done[b.loop]++; v.done[b.loop] < v.program[b.loop].N {
		m.place = b.loop
	}
}

// arePoints reports whether each number of a is that of a point.
func arePoints(m *state, a span) bool { return a[0] >= 0 && a[1] < len(m.points) }

// at does an OpAt.
func (v *prover) at(m *state) api.Errno {
	a := m.take()
	if !arePoints(m, a) {
		return api.ErrIndex
	}
	y := m.points[a[0]][1]
	for k := a[0]; k <= a[1]; k++ {
		y = join(y, m.points[k][1])
	}
	return v.give(m, y)
}

// move does an OpMove.
func move(m *state) api.Errno {
	a, b := m.take2()
	if !arePoints(m, a) {
		return api.ErrIndex
	}
	for k := a[0]; k <= a[1]; k++ {
		y := m.points[k][1]
		sum := span{y[0] + b[0], y[1] + b[1]}
		if !isSmall(sum[:]...) {
			return api.ErrValue
		}
		if a[0] < a[1] {
			sum = join(sum, y)
		}
		m.points[k][1] = sum
	}
	return api.OK
}

func lessThan(a, b span) span {
	switch {
	case a[1] < b[0]:
		return span{1, 1}
	case a[0] >= b[1]:
		return span{0, 0}
	}
	return span{0, 1}
}

// table returns the operations that are not about numbers alone, and with them those that are.
func (v *prover) table() map[int]operation {
	get := func(n, part int, m *state) api.Errno { return v.give(m, m.points[n][part]) }
	set := func(n, part int, m *state) api.Errno {
		m.points[n][part] = m.take()
		return api.OK
	}
	all := map[int]operation{
		api.OpPush: {0, func(m *state, n int) api.Errno { return v.give(m, span{n, n}) }},
		api.OpPop:  {1, func(m *state, _ int) api.Errno { m.take(); return api.OK }},
		api.OpDup:  {1, func(m *state, _ int) api.Errno { a := m.take(); return v.give(m, a, a) }},
		api.OpSwap: {2, func(m *state, _ int) api.Errno { a, b := m.take2(); return v.give(m, b, a) }},
		api.OpLess: {2, func(m *state, _ int) api.Errno { a, b := m.take2(); return v.give(m, lessThan(a, b)) }},
		api.OpSize: {0, func(m *state, _ int) api.Errno { return v.give(m, span(v.sizes)) }},
		api.OpAxis: {0, func(m *state, n int) api.Errno { return v.give(m, span(v.axes[n])) }},
		api.OpGetX: {0, func(m *state, n int) api.Errno { return get(n, 0, m) }},
		api.OpGetY: {0, func(m *state, n int) api.Errno { return get(n, 1, m) }},
		api.OpSetX: {1, func(m *state, n int) api.Errno { return set(n, 0, m) }},
		api.OpSetY: {1, func(m *state, n int) api.Errno { return set(n, 1, m) }},
		api.OpAt:   {1, func(m *state, _ int) api.Errno { return v.at(m) }},
		api.OpMove: {2, func(m *state, _ int) api.Errno { return move(m) }},
		api.OpLoad: {0, func(m *state, n int) api.Errno { return v.give(m, m.slots[n]) }},
		api.OpStore: {1, func(m *state, n int) api.Errno {
			m.slots[n] = m.take()
			return api.OK
		}},
		api.OpIf:   {1, func(m *state, _ int) api.Errno { return v.branch(m) }},
		api.OpElse: {0, func(m *state, _ int) api.Errno { m.place = v.blocks[m.place].end; return api.OK }},
		api.OpEnd:  {0, func(m *state, _ int) api.Errno { v.end(m); return api.OK }},
		api.OpLoop: {0, func(m *state, _ int) api.Errno { v.done[m.place] = 0; return api.OK }},
	}
	v.arithmetic(all)
	return all
}

// arithmetic adds the operations that act on the ends of ranges.
func (v *prover) arithmetic(all map[int]operation) {
	one := func(f func(int) int) operation {
		return operation{1, func(m *state, _ int) api.Errno { return v.give(m, ends1(m.take(), f)) }}
	}
	two := func(f func(int, int) int) operation {
		return operation{2, func(m *state, _ int) api.Errno {
			a, b := m.take2()
			return v.give(m, ends2(a, b, f))
		}}
	}
	all[api.OpNeg] = one(func(a int) int { return -a })
	all[api.OpRound] = one(func(a int) int {
		n, _ := fix.Round(a, 64)
		return 64 * n
	})
	all[api.OpAdd] = two(func(a, b int) int { return a + b })
	all[api.OpSub] = two(func(a, b int) int { return a - b })
	all[api.OpMul] = two(func(a, b int) int {
		n, _ := fix.Mul(a, b)
		return n
	})
	all[api.OpMin] = two(func(a, b int) int { return min(a, b) })
	all[api.OpMax] = two(func(a, b int) int { return max(a, b) })
}
