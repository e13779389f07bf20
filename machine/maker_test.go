package machine_test

import (
	"math"
	"math/rand"
	"slices"

	"queuelab/api"
)

func pick[T any](m maker, from ...T) T { return from[m.Intn(len(from))] }

// maker makes programs over variables, code that is not the code of a program, and whatever both are run with.
type maker struct {
	*rand.Rand
	vars []api.Var
}

// makers yields so many of them, each with variables of its own.
func makers(seed int64, count int, vars func(m maker) []api.Var) func(yield func(maker) bool) {
	return func(yield func(maker) bool) {
		r := rand.New(rand.NewSource(seed))
		for range count {
			m := maker{Rand: r}
			m.vars = vars(m)
			if !yield(m) {
				return
			}
		}
	}
}

// programVars returns variables of a program, of which the first one is in packets, with ranges of few numbers.
func programVars(m maker) []api.Var {
	vars := make([]api.Var, 1+m.Intn(5))
	for i := range vars {
		low := pick(m, 0, 0, 1, 1, 2, 7, 990, 999999980)
		v := api.Var{Name: "v" + string(rune('a'+i)), Unit: m.Intn(5), Low: low, High: low + m.Intn(12)}
		v.Init = v.Low + m.Intn(v.High-v.Low+1)
		vars[i] = v
	}
	vars[0].Unit = api.UnitPackets
	return vars
}

// anyVars returns variables of which only the ranges have a meaning; most of these contain all values.
func anyVars(m maker) []api.Var {
	vars := make([]api.Var, 1+m.Intn(api.MaxVars))
	for i := range vars {
		vars[i] = pick(m,
			api.Var{Low: math.MinInt, High: math.MaxInt}, api.Var{Low: -most, High: most}, api.Var{Low: -most - 1, High: most + 1}, api.Var{Low: -1000, High: 1000},
			api.Var{Low: -5, High: 5, Name: "no name!", Unit: -3, Init: 77}, api.Var{Low: 0, High: 100}, api.Var{Low: math.MinInt, High: 2}, api.Var{Low: -2, High: math.MaxInt}, api.Var{Low: 7, High: 7})
		if m.Intn(3) > 0 {
			vars[i] = api.Var{Low: -most, High: most}
		}
	}
	return vars
}

// leaf returns an expression without kids, with the unit of a kind.
func (m maker) leaf(kind int) api.Expr {
	leaves := []api.Expr{number(pick(m, 0, 1, 2, m.Intn(20), m.Intn(1000000001)), kind), number(m.Intn(12), kind)}
	for i, v := range m.vars {
		if v.Unit == kind {
			leaves = append(leaves, variable(i), variable(i), variable(i))
		}
	}
	inputs := [][]int{api.UnitPackets: {api.InAcked, api.InTotal}, api.UnitBytes: {api.InSize}, api.UnitTime: {api.InRtt}, api.UnitRate: nil}
	for _, i := range inputs[kind] {
		leaves = append(leaves, api.Expr{Op: api.ExInput, N: i})
	}
	return pick(m, leaves...)
}

// expr returns an expression with the unit of a kind, and operations at most so deep in each other.
func (m maker) expr(kind, depth int) api.Expr {
	if depth == 0 || m.Intn(4) == 0 {
		return m.leaf(kind)
	}
	op := api.ExAdd + m.Intn(7)
	a, b := m.expr(kind, depth-1), api.Expr{}
	switch op {
	case api.ExMul:
		b = m.expr(api.UnitNone, depth-1)
	case api.ExDiv, api.ExUp:
		b = m.divisor(depth - 1)
	default:
		b = m.expr(kind, depth-1)
	}
	return node(op, a, b)
}

// divisor returns an expression without a unit that is often greater than 0.
func (m maker) divisor(depth int) api.Expr {
	if depth == 0 || m.Intn(4) == 0 {
		return m.expr(api.UnitNone, depth)
	}
	return node(api.ExMax, m.expr(api.UnitNone, depth-1), number(1+m.Intn(5), api.UnitNone))
}

// stmts returns at most three statements, with others at most so deep in them.
func (m maker) stmts(depth int) []api.Stmt {
	var list []api.Stmt
	for range m.Intn(4) {
		list = append(list, m.stmt(depth))
	}
	return list
}

func (m maker) stmt(depth int) api.Stmt {
	if depth == 0 || m.Intn(2) == 0 {
		return m.assignment()
	}
	kind := m.Intn(5)
	s := api.Stmt{Kind: api.StIf, Rel: 1 + m.Intn(6), A: m.expr(kind, m.Intn(3)), B: m.expr(kind, m.Intn(3))}
	if m.Intn(2) == 0 {
		i := m.Intn(len(m.vars))
		v := m.vars[i]
		s.A, s.B = variable(i), number(m.inside(v.Low, v.High), v.Unit)
	}
	s.Then, s.Else = m.stmts(depth-1), m.stmts(depth-1)
	return s
}

// assignment returns one that mostly leads into the range of its variable, but perhaps not quite.
func (m maker) assignment() api.Stmt {
	i := m.Intn(len(m.vars))
	v := m.vars[i]
	a := m.expr(v.Unit, 3)
	if m.Intn(6) > 0 {
		low, high := max(v.Low-m.Intn(20)/19, 0), min(v.High+m.Intn(20)/19, 1000000000)
		a = node(api.ExMax, node(api.ExMin, a, number(high, v.Unit)), number(low, v.Unit))
	}
	return api.Stmt{Kind: api.StAssign, Var: i, A: a}
}

// program returns a valid one; statements of two handlers are not too many for one.
func (m maker) program() api.Program {
	p := api.Program{Name: "p", Vars: m.vars, Pace: -1}
	for event := range p.On {
		for p.On[event] = m.stmts(2); amount(p.On[event]) > api.MaxStmts/2; {
			p.On[event] = m.stmts(2)
		}
	}
	return p
}

// amount returns how many statements there are, with those in others.
func amount(list []api.Stmt) int {
	n := len(list)
	for _, s := range list {
		n += amount(s.Then) + amount(s.Else)
	}
	return n
}

// inside returns a number from low to high, often one of these.
func (m maker) inside(low, high int) int {
	switch m.Intn(4) {
	case 0:
		return low
	case 1:
		return high
	}
	return low + m.Intn(high-low+1)
}

// state returns one of the variables.
func (m maker) state() []int {
	var state []int
	for _, v := range m.vars {
		low, high := max(v.Low, -most), min(v.High, most)
		if m.Intn(3) > 0 && low <= 0 && high >= 3 {
			low, high = 0, min(high, 30)
		}
		state = append(state, m.inside(low, high))
	}
	return state
}

// call returns a valid one.
func (m maker) call() api.Call {
	return api.Call{Event: m.Intn(api.Events), In: [api.Inputs]int{m.inside(1, 1000), m.inside(1, 10000000), m.inside(1, 10000), m.inside(0, 4000)}}
}

// simple returns an instruction that leads to the next one, from a height at which this is possible.
func (m maker) simple(height int) api.Instr {
	switch least := m.Intn(4); {
	case least == 0 && height > 0:
		return store(m.Intn(len(m.vars)))
	case least == 1 && height > 1:
		return api.Instr{Op: api.CoAdd + m.Intn(7)}
	}
	if height == 64 {
		return api.Instr{Op: api.CoMax}
	}
	return pick(m, push(pick(m, 0, -5, m.Intn(30), m.Intn(2000001), most, -most)), push(1+m.Intn(20)), load(m.Intn(len(m.vars))), take(m.Intn(4)))
}

// effect returns by how much the height is greater after an instruction.
func effect(x api.Instr) int {
	switch {
	case x.Op <= api.CoInput:
		return 1
	case x.Op <= api.CoStore:
		return -1
	case x.Op == api.CoUnless:
		return -2
	}
	return 0
}

// piece returns code that leads from a height to another one, by ways that part, and meet again at any height.
func (m maker) piece(from, to, depth int) []api.Instr {
	var list []api.Instr
	for range m.Intn(5) {
		x := m.simple(from)
		list, from = append(list, x), from+effect(x)
	}
	if depth > 0 && from >= 2 {
		meet := m.Intn(4)
		list, from = joined(list, m.fork(from-2, meet, depth-1)), meet
	}
	return joined(list, m.level(from, to))
}

// fork returns a CoUnless with both ways behind it, which lead from a height to another one.
func (m maker) fork(from, to, depth int) []api.Instr {
	then, other := m.piece(from, to, depth), m.piece(from, to, depth)
	if m.Intn(4) == 0 {
		// The first way goes on with the other one.
		then, other = m.piece(from, from, depth), m.level(from, to)
	} else {
		then = append(then, jump(len(then)+1+len(other)))
	}
	return joined([]api.Instr{unless(1+m.Intn(6), 1+len(then))}, then, other)
}

// level returns code without ways that leads from a height to another one.
func (m maker) level(from, to int) []api.Instr {
	var list []api.Instr
	for from != to {
		x := push(m.Intn(10))
		if from > to {
			x = store(m.Intn(len(m.vars)))
		}
		list, from = append(list, x), from+effect(x)
	}
	return list
}

// handler returns valid code of one, perhaps of none.
func (m maker) handler() []api.Instr {
	height := m.Intn(5)
	if m.Intn(10) == 0 {
		height = 64
	}
	return joined(m.piece(0, height, 2), m.piece(height, 0, 3))
}

// code returns valid code of all handlers.
func (m maker) code() api.Code {
	var c api.Code
	for event := range c.On {
		c.On[event] = m.handler()
	}
	return c
}

// shifted returns code with indices that are greater by a number.
func shifted(list []api.Instr, by int) []api.Instr {
	list = slices.Clone(list)
	for i, x := range list {
		if x.Op == api.CoUnless || x.Op == api.CoJump {
			list[i].N += by
		}
	}
	return list
}

// joined puts code together, each part with indices from its own beginning on.
func joined(parts ...[]api.Instr) []api.Instr {
	var list []api.Instr
	for _, part := range parts {
		list = append(list, shifted(part, len(list))...)
	}
	return list
}

// changed returns code with something else in a place, if it has one.
func (m maker) changed(list []api.Instr) []api.Instr {
	if len(list) == 0 {
		return list
	}
	list = slices.Clone(list)
	i := m.Intn(len(list))
	switch x := &list[i]; m.Intn(5) {
	case 0:
		x.Op = pick(m, -1, 0, 14, 1+m.Intn(13), 1+m.Intn(13))
	case 1:
		x.N = pick(m, -1, 0, 3, 4, len(m.vars)-1, len(m.vars), i+1, len(list), len(list)+1, most+1, -most-1, m.Intn(len(list)+1))
	case 2:
		x.Rel = m.Intn(9) - 1
	case 3:
		list = slices.Delete(list, i, i+1)
	case 4:
		j := m.Intn(len(list))
		list[i], list[j] = list[j], list[i]
	}
	return list
}
