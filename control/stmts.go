package control

import (
	"slices"

	"queuelab/api"
)

// operations has the operation of each kind of a node with operands.
var operations = [...]int{
	api.NodeAdd: api.ExAdd,
	api.NodeSub: api.ExSub,
	api.NodeMul: api.ExMul,
	api.NodeDiv: api.ExDiv,
	api.NodeUp:  api.ExUp,
	api.NodeMin: api.ExMin,
	api.NodeMax: api.ExMax,
}

// inputs has the name of each input.
var inputs = [api.Inputs]string{
	api.InAcked: "acked",
	api.InRtt:   "rtt",
	api.InSize:  "size",
	api.InTotal: "total",
}

// scope has the variables that statements can name.
type scope []api.Var

// index returns the index of the variable that a node names.
func (s scope) index(n api.Node) int {
	v := slices.IndexFunc(s, func(v api.Var) bool { return v.Name == n.Name })
	need(v >= 0, api.ErrName, n)
	return v
}

// count returns how many nodes of a tree have a property.
func count(n api.Node, holds func(api.Node) bool) int {
	total := 0
	if holds(n) {
		total++
	}
	for _, kid := range n.Kids {
		total += count(kid, holds)
	}
	return total
}

func isStmt(n api.Node) bool { return n.Kind == api.NodeAssign || n.Kind == api.NodeIf }

func (s scope) stmts(list []api.Node) []api.Stmt {
	var stmts []api.Stmt
	for _, n := range list {
		if n.Kind == api.NodeAssign {
			stmts = append(stmts, s.assignment(n))
		} else {
			stmts = append(stmts, s.condition(n))
		}
	}
	return stmts
}

func (s scope) assignment(n api.Node) api.Stmt {
	x := api.Stmt{Kind: api.StAssign, Var: s.index(n)}
	x.A = s.expr(n.Kids[0])
	return x
}

func (s scope) condition(n api.Node) api.Stmt {
	x := api.Stmt{Kind: api.StIf, Rel: n.N}
	x.A = s.expr(n.Kids[0])
	x.B = s.expr(n.Kids[1])
	x.Then = s.stmts(n.Kids[2].Kids)
	if len(n.Kids) > 3 {
		x.Else = s.stmts(n.Kids[3].Kids)
	}
	return x
}

// expr returns an expression of a statement.
func (s scope) expr(n api.Node) api.Expr {
	nodes := count(n, func(api.Node) bool { return true })
	need(nodes <= api.MaxExpr, api.ErrLimit, n)
	return s.part(n)
}

// part returns an expression, or a part of one.
func (s scope) part(n api.Node) api.Expr {
	switch n.Kind {
	case api.NodeNumber:
		return api.Expr{Op: api.ExNumber, N: n.N, Unit: n.Unit}
	case api.NodeName:
		return s.name(n)
	}
	e := api.Expr{Op: operations[n.Kind]}
	for _, kid := range n.Kids {
		e.Kids = append(e.Kids, s.part(kid))
	}
	return e
}

// name returns the input or the variable of a name.
func (s scope) name(n api.Node) api.Expr {
	for k, name := range inputs {
		if name == n.Name {
			return api.Expr{Op: api.ExInput, N: k}
		}
	}
	return api.Expr{Op: api.ExVar, N: s.index(n)}
}
