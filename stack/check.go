package stack

import (
	"abugida/api"
)

func isSmall(n int) bool { return n >= -api.MaxValue && n <= api.MaxValue }

func below(n, limit int, e api.Errno) api.Errno {
	if n < 0 || n >= limit {
		return e
	}
	return api.OK
}

// checkOne returns what is wrong with one instruction, by itself.
func checkOne(i api.Ins, axes, points int) api.Errno {
	switch i.Op {
	case api.OpPush:
		if !isSmall(i.N) {
			return api.ErrValue
		}
		return api.OK
	case api.OpAxis:
		return below(i.N, axes, api.ErrIndex)
	case api.OpGetX, api.OpGetY, api.OpSetX, api.OpSetY:
		return below(i.N, points, api.ErrIndex)
	case api.OpLoad, api.OpStore:
		return below(i.N, api.MaxStore, api.ErrSlot)
	case api.OpLoop:
		if i.N < 1 || i.N > api.MaxLoop {
			return api.ErrLoop
		}
		return api.OK
	}
	if i.Op < api.OpPush || i.Op > api.OpLoop || i.N != 0 {
		return api.ErrOp
	}
	return api.OK
}

// blocks returns where the program goes on: from an OpIf to its OpElse or OpEnd, from an OpElse to its OpEnd,
// and from the OpEnd of an OpLoop back to this; and whether the program is closed.
func blocks(p []api.Ins) (map[int]int, bool) {
	partner := map[int]int{}
	var open []int
	for i, ins := range p {
		switch ins.Op {
		case api.OpIf, api.OpLoop:
			open = append(open, i)
		case api.OpElse:
			if len(open) == 0 || p[open[len(open)-1]].Op != api.OpIf {
				return nil, false
			}
			partner[open[len(open)-1]] = i
			open[len(open)-1] = i
		case api.OpEnd:
			if len(open) == 0 {
				return nil, false
			}
			opener := open[len(open)-1]
			open = open[:len(open)-1]
			if p[opener].Op == api.OpLoop {
				partner[i] = opener
			} else {
				partner[opener] = i
			}
		}
	}
	return partner, len(open) == 0
}

// Check returns what is wrong with a program for this number of axes and points.
func Check(p []api.Ins, axes, points int) api.Errno {
	if axes < 0 || axes > api.MaxAxes || points < 0 || points > api.MaxPoints {
		return api.ErrArg
	}
	if len(p) > api.MaxProgram {
		return api.ErrMany
	}
	for _, i := range p {
		if e := checkOne(i, axes, points); e != api.OK {
			return e
		}
	}
	if _, closed := blocks(p); !closed {
		return api.ErrLoop
	}
	return api.OK
}
