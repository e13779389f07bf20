package meaning

import "queuelab/api"

// reader has what an expression may read, and the operations by which it is evaluated.
type reader struct {
	state      []int
	in         [api.Inputs]int
	operations map[int]func(a, b int) int
}

// operations returns the functions of the operations on two values. Their results may be no values, but they fit into an int.
func operations() map[int]func(a, b int) int {
	return map[int]func(a, b int) int{
		api.ExAdd: func(a, b int) int { return a + b },
		api.ExSub: func(a, b int) int { return a - b },
		api.ExMul: product,
		api.ExDiv: down,
		// Down from the other side of 0 is up.
		api.ExUp:  func(a, b int) int { return -down(-a, b) },
		api.ExMin: func(a, b int) int { return min(a, b) },
		api.ExMax: func(a, b int) int { return max(a, b) },
	}
}

// product returns a * b; if this is no value, it ends the run, since it may not fit into an int.
func product(a, b int) int {
	need(a == 0 || max(b, -b) <= api.MaxValue/max(a, -a), api.ErrRange)
	return a * b
}

// down returns a / b, rounded down.
func down(a, b int) int {
	need(b != 0, api.ErrZero)
	q := a / b
	// The language rounds towards zero.
	if a%b != 0 && (a < 0) != (b < 0) {
		q--
	}
	return q
}

// size returns how many nodes an expression has, or a greater number than most if they are more than that. It looks at no more of them, since a slice of expressions may contain itself.
func size(e api.Expr, most int) int {
	nodes := 1
	for i := 0; i < len(e.Kids) && nodes <= most; i++ {
		nodes += size(e.Kids[i], most-nodes)
	}
	return nodes
}

// value returns the value of an expression; its error ends the run.
func (r reader) value(e api.Expr) int {
	// All kids come first: their errors go before what is wrong with the expression itself.
	var kids []int
	for _, kid := range e.Kids {
		kids = append(kids, r.value(kid))
	}
	n := r.result(e, kids)
	need(between(n, -api.MaxValue, api.MaxValue), api.ErrRange)
	return n
}

// result returns what the value of an expression with some values of its kids would be.
func (r reader) result(e api.Expr, kids []int) int {
	if len(kids) == 0 {
		return r.leaf(e)
	}
	operate, ok := r.operations[e.Op]
	need(ok && len(kids) == 2, api.ErrArg)
	return operate(kids[0], kids[1])
}

// leaf returns what the value of an expression without kids would be.
func (r reader) leaf(e api.Expr) int {
	switch {
	case e.Op == api.ExNumber:
		return e.N
	case e.Op == api.ExVar && isIndex(e.N, len(r.state)):
		return r.state[e.N]
	case e.Op == api.ExInput && isIndex(e.N, len(r.in)):
		return r.in[e.N]
	}
	panic(api.ErrArg)
}
