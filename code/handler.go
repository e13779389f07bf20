package code

import (
	"slices"

	"queuelab/api"
)

// room is how many numbers the stack of a machine has room for.
const room = 64

// unknown is the height of an instruction that no other one before it leads to.
const unknown = -1

// effects has how many numbers each operation takes from the stack, and puts there.
var effects = [...]struct{ takes, puts int }{
	api.CoPush:   {0, 1},
	api.CoVar:    {0, 1},
	api.CoInput:  {0, 1},
	api.CoAdd:    {2, 1},
	api.CoSub:    {2, 1},
	api.CoMul:    {2, 1},
	api.CoDiv:    {2, 1},
	api.CoUp:     {2, 1},
	api.CoMin:    {2, 1},
	api.CoMax:    {2, 1},
	api.CoStore:  {1, 0},
	api.CoUnless: {2, 0},
	api.CoJump:   {0, 0},
}

// handler is the code of a handler, with the heights of its instructions and its end as far as they are known.
type handler struct {
	list    []api.Instr
	vars    int
	heights []int
}

func newHandler(list []api.Instr, vars int) handler {
	h := handler{list, vars, slices.Repeat([]int{unknown}, len(list)+1)}
	h.heights[0] = 0
	return h
}

// isFormed reports whether the fields of an instruction are right.
func (h handler) isFormed(index int) bool {
	x := h.list[index]
	rels := api.Span{}
	if x.Op == api.CoUnless {
		rels = api.Span{Low: api.RelLess, High: api.RelOther}
	}
	return between(x.Op, api.Span{Low: api.CoPush, High: api.CoJump}) && between(x.N, h.numbers(index)) && between(x.Rel, rels)
}

// numbers returns from which to which number N of an instruction may be.
func (h handler) numbers(index int) api.Span {
	switch h.list[index].Op {
	case api.CoPush:
		return api.Span{Low: -api.MaxValue, High: api.MaxValue}
	case api.CoVar, api.CoStore:
		return api.Span{High: h.vars - 1}
	case api.CoInput:
		return api.Span{High: api.Inputs - 1}
	case api.CoUnless, api.CoJump:
		return api.Span{Low: index + 1, High: len(h.list)}
	}
	return api.Span{}
}

// isSound reports whether an instruction with right fields, after those before it, finds what it takes, and gives the right height to where the run can continue.
func (h handler) isSound(index int) bool {
	x := h.list[index]
	effect := effects[x.Op]
	rest := h.heights[index] - effect.takes
	// This is so, too, if the height is unknown.
	if rest < 0 {
		return false
	}
	height := rest + effect.puts
	switch x.Op {
	case api.CoUnless:
		return h.reach(index+1, height) && h.reach(x.N, height)
	case api.CoJump:
		return h.reach(x.N, height)
	}
	return h.reach(index+1, height)
}

// reach gives an instruction, or the end, a height, and reports whether it may have this one.
func (h handler) reach(index, height int) bool {
	if h.heights[index] == unknown {
		h.heights[index] = height
	}
	return h.heights[index] == height && height <= room
}

func between(n int, s api.Span) bool { return s.Low <= n && n <= s.High }
