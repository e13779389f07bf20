package code_test

import (
	"math/rand"
	"slices"

	"queuelab/api"
)

func pick[T any](m maker, from ...T) T { return from[m.Intn(len(from))] }

// maker makes programs over variables, and code that is not the code of a program.
type maker struct {
	*rand.Rand
	vars []api.Var
}

// makers yields so many of them, each with other variables.
func makers(seed int64, count int) func(yield func(maker) bool) {
	return func(yield func(maker) bool) {
		r := rand.New(rand.NewSource(seed))
		for range count {
			m := maker{Rand: r}
			m.vars = m.someVars()
			if !yield(m) {
				return
			}
		}
	}
}

// someVars returns variables, of which the first one is in packets.
func (m maker) someVars() []api.Var {
	vars := make([]api.Var, 1+m.Intn(api.MaxVars))
	for i := range vars {
		vars[i] = api.Var{Name: "v" + string(rune('a'+i)), Unit: m.Intn(5), High: m.Intn(100)}
	}
	vars[0].Unit = api.UnitPackets
	return vars
}

// leaf returns an expression without kids, with the unit of a kind.
func (m maker) leaf(kind int) api.Expr {
	leaves := []api.Expr{number(pick(m, 0, 1, m.Intn(1000), 1000000000), kind)}
	for i, v := range m.vars {
		if v.Unit == kind {
			leaves = append(leaves, variable(i))
		}
	}
	inputs := [][]int{api.UnitPackets: {api.InAcked, api.InTotal}, api.UnitBytes: {api.InSize}, api.UnitTime: {api.InRtt}, api.UnitRate: nil}
	for _, i := range inputs[kind] {
		leaves = append(leaves, input(i))
	}
	return pick(m, leaves...)
}

// expr returns an expression with the unit of a kind, and operations at most so deep in each other.
func (m maker) expr(kind, depth int) api.Expr {
	if depth == 0 || m.Intn(4) == 0 {
		return m.leaf(kind)
	}
	// An operation may have any number, which has no meaning.
	e := api.Expr{Op: api.ExAdd + m.Intn(7), N: pick(m, 0, 0, 3, -1)}
	a, b := kind, kind
	switch e.Op {
	case api.ExMul, api.ExDiv, api.ExUp:
		b = api.UnitNone
	}
	e.Kids = []api.Expr{m.expr(a, depth-1), m.expr(b, depth-1)}
	return e
}

// stmts returns at most so many statements, with others at most so deep in them.
func (m maker) stmts(most, depth int) []api.Stmt {
	var list []api.Stmt
	for range m.Intn(most + 1) {
		list = append(list, m.stmt(depth))
	}
	return list
}

func (m maker) stmt(depth int) api.Stmt {
	if depth == 0 || m.Intn(2) == 0 {
		v := m.Intn(len(m.vars))
		return api.Stmt{Kind: api.StAssign, Var: v, A: m.expr(m.vars[v].Unit, m.Intn(5))}
	}
	kind := m.Intn(5)
	return api.Stmt{Kind: api.StIf, Rel: 1 + m.Intn(6), A: m.expr(kind, m.Intn(4)), B: m.expr(kind, m.Intn(4)), Then: m.stmts(3, depth-1), Else: m.stmts(3, depth-1)}
}

// program returns a valid one; statements of two handlers are not too many for one.
func (m maker) program() api.Program {
	p := api.Program{Name: "p", Vars: m.vars, Pace: -1}
	for event := range p.On {
		for p.On[event] = m.stmts(4, 3); amount(p.On[event]) > api.MaxStmts/2; {
			p.On[event] = m.stmts(4, 3)
		}
	}
	return p
}

// amount returns how many statements there are, with those in others.
func amount(list []api.Stmt) int {
	n := len(list)
	for _, s := range list {
		n += amount(s.Then) + amount(s.Else)
	}
	return n
}

// simple returns an instruction that leads to the next one, from a height at which this is possible.
func (m maker) simple(height int) api.Instr {
	switch least := m.Intn(4); {
	case least == 0 && height > 0:
		return api.Instr{Op: api.CoStore, N: m.Intn(len(m.vars))}
	case least == 1 && height > 1:
		return api.Instr{Op: api.CoAdd + m.Intn(7)}
	}
	if height == 64 {
		return api.Instr{Op: api.CoStore}
	}
	return pick(m, api.Instr{Op: api.CoPush, N: pick(m, 0, -5, most, -most)}, api.Instr{Op: api.CoVar, N: m.Intn(len(m.vars))}, api.Instr{Op: api.CoInput, N: m.Intn(4)})
}

// piece returns code that leads from a height to another one, by ways that part, and meet again at any height.
func (m maker) piece(from, to, depth int) []api.Instr {
	var list []api.Instr
	for range m.Intn(5) {
		x := m.simple(from)
		list, from = append(list, x), from+effect(x)
	}
	if depth > 0 && from >= 2 {
		meet := m.Intn(4)
		list, from = joined(list, m.fork(from-2, meet, depth-1)), meet
	}
	return joined(list, m.level(from, to))
}

// fork returns a CoUnless with both ways behind it, which lead from a height to another one.
func (m maker) fork(from, to, depth int) []api.Instr {
	unless := api.Instr{Op: api.CoUnless, Rel: 1 + m.Intn(6)}
	then, other := m.piece(from, to, depth), m.piece(from, to, depth)
	switch m.Intn(4) {
	case 0: // The first way is the longer one, or the same.
		then, other = m.piece(from, from, depth), m.level(from, to)
	default:
		then = append(then, api.Instr{Op: api.CoJump, N: len(then) + 1 + len(other)})
	}
	unless.N = 1 + len(then)
	return joined([]api.Instr{unless}, then, other)
}

// level returns code without ways that leads from a height to another one.
func (m maker) level(from, to int) []api.Instr {
	var list []api.Instr
	for from != to {
		x := api.Instr{Op: api.CoPush, N: m.Intn(10)}
		if from > to {
			x = api.Instr{Op: api.CoStore, N: m.Intn(len(m.vars))}
		}
		list, from = append(list, x), from+effect(x)
	}
	return list
}

// shifted returns code with indices that are greater by a number.
func shifted(list []api.Instr, by int) []api.Instr {
	list = slices.Clone(list)
	for i, x := range list {
		if x.Op == api.CoUnless || x.Op == api.CoJump {
			list[i].N += by
		}
	}
	return list
}

// joined puts code together, each part with indices from its own beginning on.
func joined(parts ...[]api.Instr) []api.Instr {
	var list []api.Instr
	for _, part := range parts {
		list = append(list, shifted(part, len(list))...)
	}
	return list
}

// handler returns valid code of one that is not empty.
func (m maker) handler() []api.Instr {
	height := 1 + m.Intn(4)
	if m.Intn(10) == 0 {
		height = 64
	}
	return joined(m.piece(0, height, 2), m.piece(height, 0, 3))
}

// changed returns code with something else in a place.
func (m maker) changed(list []api.Instr) []api.Instr {
	list = slices.Clone(list)
	i := m.Intn(len(list))
	switch x := &list[i]; m.Intn(6) {
	case 0:
		x.Op = pick(m, -1, 0, 14, 1+m.Intn(13), 1+m.Intn(13))
	case 1:
		x.N = pick(m, -1, 0, 3, 4, len(m.vars)-1, len(m.vars), i, i+1, len(list), len(list)+1, most+1, -most-1, m.Intn(len(list)+1))
	case 2:
		x.Rel = m.Intn(9) - 1
	case 3:
		list = slices.Insert(list, i, list[m.Intn(len(list))])
	case 4:
		list = slices.Delete(list, i, i+1)
	case 5:
		j := m.Intn(len(list))
		list[i], list[j] = list[j], list[i]
	}
	return list
}
