package control_test

import (
	"math"
	"math/rand"
	"slices"
	"strconv"

	"queuelab/api"
	"queuelab/parser"
	"queuelab/units"
)

func pick[T any](r *rand.Rand, from ...T) T { return from[r.Intn(len(from))] }

var someNames = []string{"w", "r", "a", "b1", "x_", "abcdefghijkl", "links", "min2", "on1", "c", "d", "p", "rtt_", "acked1", "t", "policy"}

// maker makes programs over variables.
type maker struct {
	*rand.Rand
	vars []api.Var
}

// makers yields so many of them, each with other variables, of which one is in packets.
func makers(seed int64, count int) func(yield func(maker) bool) {
	return func(yield func(maker) bool) {
		r := rand.New(rand.NewSource(seed))
		for range count {
			if !yield(maker{r, anyVars(r)}) {
				return
			}
		}
	}
}

func anyVars(r *rand.Rand) []api.Var {
	names := slices.Clone(someNames)
	r.Shuffle(len(names), func(i, k int) { names[i], names[k] = names[k], names[i] })
	vars := make([]api.Var, 1+r.Intn(12))
	for i := range vars {
		n := []int{pick(r, 0, 0, 1), pick(r, 1, 2, 900, 1000000000), pick(r, 1, 1000, 1000000000)}
		slices.Sort(n)
		vars[i] = api.Var{Name: names[i], Unit: r.Intn(5), Low: n[0], Init: n[1], High: n[2]}
	}
	vars[r.Intn(len(vars))].Unit = api.UnitPackets
	return vars
}

// withUnit returns the indices of the variables with a unit.
func (m maker) withUnit(unit int) []int {
	var list []int
	for i, v := range m.vars {
		if v.Unit == unit {
			list = append(list, i)
		}
	}
	return list
}

// leaf returns an expression without kids, with a unit.
func (m maker) leaf(unit int) api.Expr {
	list := []api.Expr{{Op: api.ExNumber, N: m.Intn(1000), Unit: unit}}
	for _, i := range m.withUnit(unit) {
		list = append(list, api.Expr{Op: api.ExVar, N: i})
	}
	inputs := []int{api.InAcked: api.UnitPackets, api.InRtt: api.UnitTime, api.InSize: api.UnitBytes, api.InTotal: api.UnitPackets}
	for input, of := range inputs {
		if of == unit {
			list = append(list, api.Expr{Op: api.ExInput, N: input})
		}
	}
	return pick(m.Rand, list...)
}

// expr returns an expression with a unit, and operations at most so deep in each other.
func (m maker) expr(unit, depth int) api.Expr {
	if depth == 0 || m.Intn(5) == 0 {
		return m.leaf(unit)
	}
	other := m.Intn(5)
	switch m.Intn(4) {
	case 0:
		product := api.Expr{Op: api.ExMul, Kids: []api.Expr{m.expr(unit, 0), m.expr(other, 0)}}
		return api.Expr{Op: pick(m.Rand, api.ExDiv, api.ExUp), Kids: []api.Expr{product, m.expr(other, depth-1)}}
	case 1:
		kids := []api.Expr{m.expr(unit, depth-1), m.expr(api.UnitNone, depth-1)}
		m.Shuffle(2, func(i, k int) { kids[i], kids[k] = kids[k], kids[i] })
		return api.Expr{Op: api.ExMul, Kids: kids}
	}
	op := pick(m.Rand, api.ExAdd, api.ExSub, api.ExMin, api.ExMax)
	return api.Expr{Op: op, Kids: []api.Expr{m.expr(unit, depth-1), m.expr(unit, depth-1)}}
}

// stmts returns statements without errors, with others at most so deep in them.
func (m maker) stmts(depth int) []api.Stmt {
	var list []api.Stmt
	for range m.Intn(4) {
		list = append(list, m.stmt(depth))
	}
	return list
}

func (m maker) stmt(depth int) api.Stmt {
	if depth == 0 || m.Intn(2) == 0 {
		v := m.Intn(len(m.vars))
		return api.Stmt{Kind: api.StAssign, Var: v, A: m.expr(m.vars[v].Unit, 3)}
	}
	unit := m.Intn(5)
	s := api.Stmt{Kind: api.StIf, Rel: api.RelLess + m.Intn(6), A: m.expr(unit, 2), B: m.expr(unit, 2)}
	s.Then, s.Else = m.stmts(depth-1), m.stmts(depth-1)
	return s
}

// program returns a valid one, which has a valid tree.
func (m maker) program(name string) api.Program {
	for {
		p := api.Program{Name: name, Vars: m.vars, Window: pick(m.Rand, m.withUnit(api.UnitPackets)...), Pace: -1}
		if rates := m.withUnit(api.UnitRate); len(rates) > 0 && m.Intn(2) == 0 {
			p.Pace = pick(m.Rand, rates...)
		}
		for event := range p.On {
			if m.Intn(3) > 0 {
				p.On[event] = m.stmts(2)
			}
		}
		if _, err := units.Check(p); err == api.OK && parser.Valid(treeOf(p)) {
			return p
		}
	}
}

// programs returns some with different names, each over variables of its own; all of them have a valid tree, to which something can be added.
func (m maker) programs(most int) []api.Program {
	for {
		var list []api.Program
		names := slices.Clone(someNames)
		m.Shuffle(len(names), func(i, k int) { names[i], names[k] = names[k], names[i] })
		for i := range m.Intn(most + 1) {
			m.vars = anyVars(m.Rand)
			list = append(list, m.program(names[i]))
		}
		if size(treeOf(list...)) < 2000 {
			return list
		}
	}
}

// loose returns a tree with the same programs: with handlers in another order, and with blocks and handlers in which there is nothing.
func (m maker) loose(n api.Node) api.Node {
	return mapped(n, func(n api.Node) api.Node {
		if n.Kind == api.NodeIf && len(n.Kids) == 3 && m.Intn(2) == 0 {
			n.Kids = append(n.Kids, node(api.NodeBlock))
		}
		if n.Kind == api.NodeProgram {
			n.Kids = m.looseKids(n)
		}
		return n
	})
}

func (m maker) looseKids(n api.Node) []api.Node {
	vars, handlers, uses := kidsOf(n, api.NodeVar), kidsOf(n, api.NodeOn), kidsOf(n, api.NodeUse)
	for event := range api.Events {
		there := slices.ContainsFunc(handlers, func(n api.Node) bool { return n.N == event })
		if !there && m.Intn(2) == 0 {
			handlers = append(handlers, named(api.NodeOn, "", event))
		}
	}
	m.Shuffle(len(handlers), func(i, k int) { handlers[i], handlers[k] = handlers[k], handlers[i] })
	return slices.Concat(vars, handlers, uses)
}

// others returns items of other kinds, some with names that programs have too.
func (m maker) others(most int) []api.Node {
	var list []api.Node
	for range m.Intn(most + 1) {
		name := pick(m.Rand, someNames...)
		numbers := []api.Node{amount(m.Intn(9), 0), amount(m.Intn(9), 0), amount(m.Intn(9), 0)}
		list = append(list, pick(m.Rand,
			named(api.NodeLink, name, 0, append(numbers, named(api.NodePolicy, "", api.PolTail))...),
			named(api.NodePath, name, 0, word("a"), amount(3, 0)),
			named(api.NodeFlow, name, 0, append([]api.Node{word("nothing"), word("a"), word("a")}, numbers...)...)))
	}
	return list
}

// between returns a tree in which other items stand between those of another one.
func (m maker) between(n api.Node) api.Node {
	all := source()
	for _, item := range n.Kids {
		all.Kids = append(append(all.Kids, m.others(2)...), item)
	}
	all.Kids = append(all.Kids, m.others(2)...)
	return all
}

// long returns an expression of 61 nodes, one more than there may be.
func long(first api.Node) api.Node {
	for range 30 {
		first = node(api.NodeAdd, first, amount(1, 0))
	}
	return first
}

// changed returns a tree with something else somewhere; mostly it is valid as a tree, but often not right as a program.
func (m maker) changed(n api.Node) api.Node {
	n.Kids = slices.Clone(n.Kids)
	if len(n.Kids) > 0 && m.Intn(4) > 0 {
		i := m.Intn(len(n.Kids))
		n.Kids[i] = m.changed(n.Kids[i])
		return n
	}
	if n.Name != "" && m.Intn(2) == 0 {
		n.Name = pick(m.Rand, append([]string{"nothing", "nothing", "if"}, someNames...)...)
		return n
	}
	switch n.Kind {
	case api.NodeNumber:
		n.N = pick(m.Rand, 0, 1, 5, 1000, 1000000000, 1000000001)
		n.Unit = pick(m.Rand, n.Unit, n.Unit, m.Intn(5))
	case api.NodeVar:
		n.N = m.Intn(5)
	case api.NodeSource, api.NodeBlock:
		n.Kids = m.changedKids(n.Kids)
	case api.NodeProgram:
		n.Kids = pick(m.Rand, m.changedKids, m.moreVars)(n.Kids)
	case api.NodeOn:
		n.N = pick(m.Rand, n.N, n.N, m.Intn(5))
		n.Kids = pick(m.Rand, m.changedKids, m.moreStmts)(n.Kids)
	case api.NodeAdd, api.NodeSub, api.NodeMul, api.NodeDiv, api.NodeUp, api.NodeMin, api.NodeMax:
		n.Kind = api.NodeAdd + m.Intn(7)
		n = pick(m.Rand, n, n, long(amount(1, 0)), long(word("nothing")), word(pick(m.Rand, someNames...)))
	}
	return n
}

// changedKids returns nodes without one of them, or with one twice, or in another order.
func (m maker) changedKids(kids []api.Node) []api.Node {
	if len(kids) == 0 {
		return []api.Node{named(api.NodeAssign, pick(m.Rand, someNames...), 0, amount(1, 1))}
	}
	i, k := m.Intn(len(kids)), m.Intn(len(kids))
	switch m.Intn(3) {
	case 0:
		return slices.Delete(slices.Clone(kids), i, i+1)
	case 1:
		kids = slices.Clone(kids)
		kids[i], kids[k] = kids[k], kids[i]
		return kids
	}
	return slices.Insert(slices.Clone(kids), i, kids[k])
}

// moreVars returns the parts of a program with further variables, about as many as there may be.
func (m maker) moreVars(kids []api.Node) []api.Node {
	for i := range 12 + m.Intn(3) - len(kids) {
		v := named(api.NodeVar, "v"+strconv.Itoa(i), m.Intn(5), amount(0, 0), amount(m.Intn(50), 0), amount(m.Intn(2), 0))
		kids = slices.Insert(slices.Clone(kids), m.Intn(2), v)
	}
	return kids
}

// moreStmts returns the statements of a handler with further ones, about as many as there may be.
func (m maker) moreStmts(kids []api.Node) []api.Node {
	count := countOf(node(0, kids...), isStmt)
	s := named(api.NodeAssign, pick(m.Rand, someNames...), 0, amount(1, m.Intn(2)))
	if i := slices.IndexFunc(kids, isStmt); i >= 0 && size(kids[i]) < 10 {
		s = named(api.NodeAssign, kids[i].Name, 0, word(kids[i].Name))
	}
	return slices.Concat(kids, slices.Repeat([]api.Node{s}, max(0, 98+m.Intn(4)-count)))
}

// odd returns a number that something may become.
func (m maker) odd() int {
	return pick(m.Rand, -1, 0, 1, 2, 3, 4, 5, 11, 12, 1000000000, 1000000001, math.MinInt, math.MaxInt)
}
