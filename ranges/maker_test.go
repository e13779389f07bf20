package ranges_test

import (
	"math/rand"
	"slices"

	"queuelab/api"
	"queuelab/control"
)

func pick[T any](m maker, from ...T) T { return from[m.Intn(len(from))] }

// maker makes expressions and programs over variables.
type maker struct {
	*rand.Rand
	vars []api.Var
}

// makers yields so many of them, each with other variables.
func makers(seed int64, count int) func(yield func(maker) bool) {
	return func(yield func(maker) bool) {
		r := rand.New(rand.NewSource(seed))
		for range count {
			m := maker{Rand: r}
			m.vars = m.someVars()
			if !yield(m) {
				return
			}
		}
	}
}

// someVars returns variables, of which the first one is in packets, with ranges of few numbers.
func (m maker) someVars() []api.Var {
	vars := make([]api.Var, 1+m.Intn(5))
	for i := range vars {
		low := pick(m, 0, 0, 1, 1, 2, 7, 990, 999999980)
		v := api.Var{Name: "v" + string(rune('a'+i)), Unit: m.Intn(5), Low: low, High: low + m.Intn(12)}
		v.Init = v.Low + m.Intn(v.High-v.Low+1)
		vars[i] = v
	}
	vars[0].Unit = api.UnitPackets
	return vars
}

// leaf returns an expression without kids, with the unit of a kind.
func (m maker) leaf(kind int) api.Expr {
	if m.Intn(3) == 0 {
		return number(pick(m, 0, 1, 2, 3, 5, m.Intn(20), m.Intn(1000000001)), kind)
	}
	leaves := []api.Expr{number(m.Intn(12), kind)}
	for i, v := range m.vars {
		if v.Unit == kind {
			leaves = append(leaves, variable(i), variable(i))
		}
	}
	switch kind {
	case api.UnitPackets:
		leaves = append(leaves, input(api.InAcked), input(api.InTotal))
	case api.UnitBytes:
		leaves = append(leaves, input(api.InSize))
	case api.UnitTime:
		leaves = append(leaves, input(api.InRtt))
	}
	return pick(m, leaves...)
}

// expr returns an expression with the unit of a kind, and operations at most so deep in each other.
func (m maker) expr(kind, depth int) api.Expr {
	if depth == 0 || m.Intn(4) == 0 {
		return m.leaf(kind)
	}
	switch m.Intn(6) {
	case 0:
		kids := []api.Expr{m.expr(kind, depth-1), m.expr(api.UnitNone, depth-1)}
		m.Shuffle(2, func(i, k int) { kids[i], kids[k] = kids[k], kids[i] })
		return node(api.ExMul, kids...)
	case 1:
		other, op := m.Intn(5), pick(m, api.ExDiv, api.ExUp)
		if kind != api.UnitNone {
			return node(op, m.expr(kind, depth-1), m.divisor(api.UnitNone, depth-1))
		}
		return node(op, m.expr(other, depth-1), m.divisor(other, depth-1))
	}
	return node(pick(m, api.ExAdd, api.ExSub, api.ExMin, api.ExMax), m.expr(kind, depth-1), m.expr(kind, depth-1))
}

// divisor returns an expression that is often greater than 0.
func (m maker) divisor(kind, depth int) api.Expr {
	if m.Intn(3) == 0 {
		return m.expr(kind, depth)
	}
	return node(api.ExMax, m.expr(kind, depth), number(1+m.Intn(5), kind))
}

// stmts returns statements, with others at most so deep in them.
func (m maker) stmts(depth int) []api.Stmt {
	var stmts []api.Stmt
	for range m.Intn(4) {
		stmts = append(stmts, m.stmt(depth))
	}
	return stmts
}

func (m maker) stmt(depth int) api.Stmt {
	if depth == 0 || m.Intn(2) == 0 {
		return m.assignment()
	}
	kind := m.Intn(5)
	// Variables are refined only if they are a side of their own.
	a, b := m.expr(kind, m.Intn(3)), m.expr(kind, m.Intn(3))
	if m.Intn(2) == 0 {
		i := m.Intn(len(m.vars))
		v := m.vars[i]
		a, b = variable(i), m.expr(v.Unit, m.Intn(3))
		if m.Intn(2) == 0 {
			b = number(v.Low+m.Intn(v.High-v.Low+1), v.Unit)
		}
		if m.Intn(2) == 0 {
			a, b = b, a
		}
	}
	return when(a, api.RelLess+m.Intn(6), b, m.stmts(depth-1), m.stmts(depth-1))
}

// assignment returns one that mostly leads into the range of its variable, but perhaps not quite.
func (m maker) assignment() api.Stmt {
	i := m.Intn(len(m.vars))
	v := m.vars[i]
	e := m.expr(v.Unit, 2)
	switch m.Intn(4) {
	case 0:
		return assign(i, e)
	case 1:
		// Such a step is right only if it is in the right list of an if.
		return assign(i, node(pick(m, api.ExAdd, api.ExSub), variable(i), number(1, v.Unit)))
	}
	low, high := v.Low, v.High
	if m.Intn(20) == 0 {
		high++
	}
	if m.Intn(20) == 0 && low > 0 {
		low--
	}
	return assign(i, node(api.ExMax, node(api.ExMin, e, number(high, v.Unit)), number(low, v.Unit)))
}

// program returns a valid one.
func (m maker) program() api.Program {
	for {
		p := api.Program{Name: "p", Vars: slices.Clone(m.vars), Pace: -1}
		for event := range p.On {
			p.On[event] = m.stmts(3)
		}
		if control.Valid(p) {
			return p
		}
	}
}

// value returns any value: a small one, or one near the limits, or one of any size.
func (m maker) value() int {
	switch m.Intn(4) {
	case 0:
		return m.Intn(21) - 10
	case 1:
		return (2*m.Intn(2) - 1) * (most - m.Intn(3))
	case 2:
		return (2*m.Intn(2) - 1) * (1000000 + m.Intn(3) - 1)
	}
	return (2*m.Intn(2) - 1) * (m.Intn(most+1) >> m.Intn(40))
}

// span returns any valid interval.
func (m maker) span() api.Span {
	x, y := m.value(), m.value()
	if m.Intn(2) == 0 {
		y = min(x+m.Intn(4), most)
	}
	return span(min(x, y), max(x, y))
}

// inside returns a number of an interval, often an end.
func (m maker) inside(s api.Span) int {
	switch m.Intn(4) {
	case 0:
		return s.Low
	case 1:
		return s.High
	}
	return s.Low + m.Intn(s.High-s.Low+1)
}

// narrower returns an interval inside another one.
func (m maker) narrower(s api.Span) api.Span {
	x, y := m.inside(s), m.inside(s)
	return span(min(x, y), max(x, y))
}

// spans returns so many intervals.
func (m maker) spans(count int) []api.Span {
	spans := make([]api.Span, count)
	for i := range spans {
		spans[i] = m.span()
	}
	return spans
}

// inputs returns an interval for each input.
func (m maker) inputs() [api.Inputs]api.Span { return [api.Inputs]api.Span(m.spans(api.Inputs)) }

// anyExpr returns an expression of any operations over some variables, mostly a well-formed one.
func (m maker) anyExpr(vars, depth int) api.Expr {
	if depth > 0 && m.Intn(5) > 0 {
		return node(api.ExAdd+m.Intn(7), m.anyExpr(vars, depth-1), m.anyExpr(vars, depth-1))
	}
	leaves := []api.Expr{plain(pick(m, 0, 1, 2, 3, 1000000000, m.Intn(1000000001))), input(m.Intn(4))}
	if vars > 0 {
		leaves = append(leaves, variable(m.Intn(vars)), variable(m.Intn(vars)))
	}
	return pick(m, leaves...)
}

// changedExpr returns an expression with something else in a place.
func (m maker) changedExpr(e api.Expr) api.Expr {
	e.Kids = slices.Clone(e.Kids)
	if len(e.Kids) > 0 && m.Intn(3) > 0 {
		i := m.Intn(len(e.Kids))
		e.Kids[i] = m.changedExpr(e.Kids[i])
		return e
	}
	switch m.Intn(4) {
	case 0:
		e.Op = pick(m, -1, 0, 1, 2, 3, 4, 7, 10, 11)
	case 1:
		e.N = pick(m, -1, 0, 1, 3, 4, 11, 12, 1000000000, 1000000001)
	case 2:
		e.Kids = append(e.Kids, m.leaf(0))
	case 3:
		e.Kids = e.Kids[:len(e.Kids)/2]
	}
	return e
}
