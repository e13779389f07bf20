package control

import (
	"slices"

	"queuelab/api"
	"queuelab/units"
)

// need leaves the item with a diagnostic at a node, unless something holds.
func need(holds bool, err api.Errno, n api.Node) {
	if !holds {
		panic(api.Diag{Err: err, At: n.At})
	}
}

// ofKind returns the nodes of a kind.
func ofKind(list []api.Node, kind int) []api.Node {
	var found []api.Node
	for _, n := range list {
		if n.Kind == kind {
			found = append(found, n)
		}
	}
	return found
}

// hasName reports whether one of some nodes has a name.
func hasName(list []api.Node, name string) bool {
	return slices.ContainsFunc(list, func(n api.Node) bool { return n.Name == name })
}

// build returns the program of an item behind earlier ones, or its diagnostic.
func build(n api.Node, earlier []api.Node) (p api.Program, diags []api.Diag) {
	defer func() {
		if d, ok := recover().(api.Diag); ok {
			diags = []api.Diag{d}
		}
	}()
	return program(n, earlier), nil
}

// program returns the program of an item; its first error leaves it by a panic, so that the order of the steps is that of the errors.
func program(n api.Node, earlier []api.Node) api.Program {
	need(!hasName(earlier, n.Name), api.ErrTwice, n)
	need(len(earlier) < api.MaxPrograms, api.ErrLimit, n)
	handlers, uses := ofKind(n.Kids, api.NodeOn), ofKind(n.Kids, api.NodeUse)
	s := variables(ofKind(n.Kids, api.NodeVar))
	p := api.Program{Name: n.Name, Vars: s, On: s.handlers(handlers), Pace: -1}
	p.Window = s.use(uses[0], api.UnitPackets)
	if len(uses) > 1 {
		p.Pace = s.use(uses[1], api.UnitRate)
	}
	// All else was checked: what is still wrong with a handler are its units.
	event, _ := units.Check(p)
	for _, h := range handlers {
		need(h.N != event, api.ErrUnit, h)
	}
	return p
}

// variables returns the variables of some nodes.
func variables(list []api.Node) scope {
	var s scope
	for i, n := range list {
		need(i < api.MaxVars, api.ErrLimit, n)
		need(!hasName(list[:i], n.Name), api.ErrTwice, n)
		v := api.Var{Name: n.Name, Unit: n.N, Low: n.Kids[0].N, High: n.Kids[1].N, Init: n.Kids[2].N}
		need(v.Low <= v.Init && v.Init <= v.High, api.ErrRange, n)
		s = append(s, v)
	}
	return s
}

// handlers returns the handlers of some nodes, each at its event.
func (s scope) handlers(list []api.Node) [api.Events][]api.Stmt {
	var on [api.Events][]api.Stmt
	for i, n := range list {
		again := func(earlier api.Node) bool { return earlier.N == n.N }
		need(!slices.ContainsFunc(list[:i], again), api.ErrTwice, n)
		need(count(n, isStmt) <= api.MaxStmts, api.ErrLimit, n)
		on[n.N] = s.stmts(n.Kids)
	}
	return on
}

// use returns the index of the variable that is used for a purpose, which needs a unit.
func (s scope) use(n api.Node, unit int) int {
	v := s.index(n)
	need(s[v].Unit == unit, api.ErrUnit, n)
	return v
}
