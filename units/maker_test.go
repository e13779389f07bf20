package units_test

import (
	"math"
	"math/rand"
	"slices"

	"queuelab/api"
)

func pick[T any](m maker, from ...T) T { return from[m.Intn(len(from))] }

// maker makes expressions and programs over variables; quotients says whether they may have some.
type maker struct {
	*rand.Rand
	vars      []api.Var
	quotients bool
}

// makers yields so many of them.
func makers(seed int64, count int) func(yield func(maker) bool) {
	return func(yield func(maker) bool) {
		r := rand.New(rand.NewSource(seed))
		for range count {
			m := maker{r, make([]api.Var, 1+r.Intn(12)), true}
			for i := range m.vars {
				m.vars[i].Unit = r.Intn(5)
			}
			if !yield(m) {
				return
			}
		}
	}
}

// leaf returns an expression without kids, with the unit of a kind.
func (m maker) leaf(kind int) api.Expr {
	list := []api.Expr{number(m.Intn(1000), kind)}
	for i, v := range m.vars {
		if v.Unit == kind {
			list = append(list, variable(i))
		}
	}
	switch kind {
	case api.UnitPackets:
		list = append(list, input(api.InAcked), input(api.InTotal))
	case api.UnitBytes:
		list = append(list, input(api.InSize))
	case api.UnitTime:
		list = append(list, input(api.InRtt))
	}
	return pick(m, list...)
}

// either returns an operation on two expressions in any order.
func (m maker) either(op int, a, b api.Expr) api.Expr {
	if m.Intn(2) == 0 {
		a, b = b, a
	}
	return node(op, a, b)
}

// expr returns an expression with the unit of a kind, and operations at most so deep in each other.
func (m maker) expr(kind, depth int) api.Expr {
	if depth == 0 || m.Intn(5) == 0 {
		return m.leaf(kind)
	}
	if m.quotients && m.Intn(3) == 0 {
		return m.quotient(kind, depth)
	}
	switch {
	case kind == api.UnitBytes && m.Intn(3) == 0:
		return m.either(api.ExMul, m.expr(api.UnitRate, depth-1), m.expr(api.UnitTime, depth-1))
	case m.Intn(3) == 0:
		return m.either(api.ExMul, m.expr(kind, depth-1), m.expr(api.UnitNone, depth-1))
	}
	return node(pick(m, api.ExAdd, api.ExSub, api.ExMin, api.ExMax), m.expr(kind, depth-1), m.expr(kind, depth-1))
}

// quotient returns one with the unit of a kind.
func (m maker) quotient(kind, depth int) api.Expr {
	op, other := pick(m, api.ExDiv, api.ExUp), m.Intn(5)
	switch {
	case kind == api.UnitNone:
		return node(op, m.expr(other, depth-1), m.expr(other, depth-1))
	case kind == api.UnitRate && m.Intn(2) == 0:
		return node(op, m.expr(api.UnitBytes, depth-1), m.expr(api.UnitTime, depth-1))
	case depth > 1:
		return node(op, m.either(api.ExMul, m.expr(kind, depth-2), m.expr(other, depth-2)), m.expr(other, depth-1))
	}
	return node(op, m.leaf(kind), m.leaf(api.UnitNone))
}

// product returns an expression that is an operation on products of at most so many factors of any kinds, both with the same unit.
func (m maker) product(most int) api.Expr {
	kinds := make([]int, 1+m.Intn(most))
	for i := range kinds {
		kinds[i] = m.Intn(5)
	}
	factors := func() api.Expr {
		m.Shuffle(len(kinds), func(i, k int) { kinds[i], kinds[k] = kinds[k], kinds[i] })
		e := m.expr(kinds[0], 1)
		for _, kind := range kinds[1:] {
			e = m.either(api.ExMul, e, m.expr(kind, 1))
		}
		return e
	}
	return node(pick(m, api.ExAdd, api.ExSub, api.ExMin, api.ExMax), factors(), factors())
}

// changed returns an expression with another one, or another value, somewhere.
func (m maker) changed(e api.Expr) api.Expr {
	e.Kids = slices.Clone(e.Kids)
	if len(e.Kids) > 0 && m.Intn(4) > 0 {
		i := m.Intn(len(e.Kids))
		e.Kids[i] = m.changed(e.Kids[i])
		return e
	}
	switch m.Intn(6) {
	case 0:
		e.Op = pick(m, -1, 0, 1, 2, 3, 4, 5, 6, 7, 8, 9, 10, 11)
	case 1:
		e.N = pick(m, -1, 0, 3, 4, 11, 12, 1000000000, 1000000001, math.MinInt, math.MaxInt)
	case 2:
		e.Unit = pick(m, -1, 0, 1, 2, 3, 4, 5)
	case 3:
		return m.product(8)
	case 4:
		return node(pick(m, api.ExAdd, api.ExMul, api.ExDiv), e, m.expr(m.Intn(5), 2))
	default:
		if len(e.Kids) > 0 {
			return e.Kids[0]
		}
		e.Kids = []api.Expr{m.leaf(m.Intn(5))}
	}
	return e
}

// stmts returns statements without errors, with others at most so deep in them.
func (m maker) stmts(depth int) []api.Stmt {
	list := make([]api.Stmt, m.Intn(4))
	for i := range list {
		list[i] = m.stmt(depth)
	}
	return list
}

func (m maker) stmt(depth int) api.Stmt {
	if depth == 0 || m.Intn(2) == 0 {
		v := m.Intn(len(m.vars))
		return assign(v, m.expr(m.vars[v].Unit, 3))
	}
	// Both have the same unit, of any kind.
	both := m.product(2)
	s := when(both.Kids[0], both.Kids[1], m.stmts(depth-1)...)
	s.Rel, s.Else = api.RelLess+m.Intn(6), m.stmts(depth-1)
	return s
}

// program returns one without errors.
func (m maker) program() api.Program {
	p := api.Program{Vars: m.vars}
	for event := range p.On {
		p.On[event] = m.stmts(3)
	}
	return p
}

// changedStmts returns statements of which one was changed, or that are more or fewer.
func (m maker) changedStmts(list []api.Stmt) []api.Stmt {
	list = slices.Clone(list)
	if len(list) == 0 || m.Intn(10) == 0 {
		return append(list, m.stmt(1))
	}
	i := m.Intn(len(list))
	s := &list[i]
	if s.Kind == api.StIf && m.Intn(2) == 0 {
		if m.Intn(2) == 0 {
			s.Then = m.changedStmts(s.Then)
		} else {
			s.Else = m.changedStmts(s.Else)
		}
		return list
	}
	switch m.Intn(8) {
	case 0:
		s.Kind = pick(m, 0, 1, 2, 3)
	case 1:
		s.Var = pick(m, -1, 0, 1, 11, 12)
	case 2:
		s.Rel = pick(m, -1, 0, 1, 6, 7)
	case 3, 4:
		s.A = m.changed(s.A)
	case 5:
		s.B = m.changed(s.B)
	case 6:
		return slices.Delete(list, i, i+1)
	default:
		return slices.Insert(list, i, slices.Repeat([]api.Stmt{*s}, pick(m, 1, 2, 40, 90))...)
	}
	return list
}
