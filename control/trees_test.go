package control_test

import (
	"fmt"
	"slices"
	"testing"

	"queuelab/api"
	"queuelab/parser"
)

func node(kind int, kids ...api.Node) api.Node { return api.Node{Kind: kind, Kids: kids} }
func word(name string) api.Node                { return api.Node{Kind: api.NodeName, Name: name} }
func amount(n, unit int) api.Node              { return api.Node{Kind: api.NodeNumber, N: n, Unit: unit} }
func source(items ...api.Node) api.Node        { return node(api.NodeSource, items...) }

func named(kind int, name string, n int, kids ...api.Node) api.Node {
	return api.Node{Kind: kind, Name: name, N: n, Kids: kids}
}

func same(a, b api.Program) bool {
	for event := range a.On {
		if !slices.EqualFunc(a.On[event], b.On[event], sameStmt) {
			return false
		}
	}
	return a.Name == b.Name && slices.Equal(a.Vars, b.Vars) && a.Window == b.Window && a.Pace == b.Pace
}

func sameStmt(a, b api.Stmt) bool {
	return a.Kind == b.Kind && a.Var == b.Var && a.Rel == b.Rel && sameExpr(a.A, b.A) && sameExpr(a.B, b.B) &&
		slices.EqualFunc(a.Then, b.Then, sameStmt) && slices.EqualFunc(a.Else, b.Else, sameStmt)
}

func sameExpr(a, b api.Expr) bool {
	return a.Op == b.Op && a.N == b.N && a.Unit == b.Unit && slices.EqualFunc(a.Kids, b.Kids, sameExpr)
}

func sameNode(a, b api.Node) bool {
	return a.Kind == b.Kind && a.Name == b.Name && a.N == b.N && a.Unit == b.Unit && a.At == b.At && slices.EqualFunc(a.Kids, b.Kids, sameNode)
}

// brief returns what a message says of a value.
func brief(x any) string {
	text := fmt.Sprintf("%+v", x)
	return text[:min(len(text), 1500)]
}

// parsed returns the tree of a source that can be parsed.
func parsed(t *testing.T, text string) api.Node {
	t.Helper()
	n, diags := parser.Parse(text)
	if len(diags) > 0 {
		t.Fatalf("%.300q: %v", text, diags)
	}
	return n
}

// treeOf returns the tree of a source with some programs, without offsets.
func treeOf(list ...api.Program) api.Node {
	n := source()
	for _, p := range list {
		n.Kids = append(n.Kids, itemOf(p))
	}
	return n
}

// itemOf returns the item of a program, which must be valid; events without statements have no handlers in it.
func itemOf(p api.Program) api.Node {
	item := named(api.NodeProgram, p.Name, 0)
	for _, v := range p.Vars {
		item.Kids = append(item.Kids, named(api.NodeVar, v.Name, v.Unit, amount(v.Low, 0), amount(v.High, 0), amount(v.Init, 0)))
	}
	for event, list := range p.On {
		if len(list) > 0 {
			item.Kids = append(item.Kids, named(api.NodeOn, "", event, stmtNodes(p.Vars, list)...))
		}
	}
	item.Kids = append(item.Kids, named(api.NodeUse, p.Vars[p.Window].Name, 0))
	if p.Pace >= 0 {
		item.Kids = append(item.Kids, named(api.NodeUse, p.Vars[p.Pace].Name, 1))
	}
	return item
}

func stmtNodes(vars []api.Var, list []api.Stmt) []api.Node {
	var nodes []api.Node
	for _, s := range list {
		if s.Kind == api.StAssign {
			nodes = append(nodes, named(api.NodeAssign, vars[s.Var].Name, 0, exprNode(vars, s.A)))
			continue
		}
		n := named(api.NodeIf, "", s.Rel, exprNode(vars, s.A), exprNode(vars, s.B), node(api.NodeBlock, stmtNodes(vars, s.Then)...))
		if len(s.Else) > 0 {
			n.Kids = append(n.Kids, node(api.NodeBlock, stmtNodes(vars, s.Else)...))
		}
		nodes = append(nodes, n)
	}
	return nodes
}

func exprNode(vars []api.Var, e api.Expr) api.Node {
	switch e.Op {
	case api.ExNumber:
		return amount(e.N, e.Unit)
	case api.ExVar:
		return word(vars[e.N].Name)
	case api.ExInput:
		return word([]string{"acked", "rtt", "size", "total"}[e.N])
	}
	kinds := map[int]int{api.ExAdd: api.NodeAdd, api.ExSub: api.NodeSub, api.ExMul: api.NodeMul, api.ExDiv: api.NodeDiv, api.ExUp: api.NodeUp, api.ExMin: api.NodeMin, api.ExMax: api.NodeMax}
	return node(kinds[e.Op], exprNode(vars, e.Kids[0]), exprNode(vars, e.Kids[1]))
}

// tidy returns the programs of a tree, as trees of the same meaning that itemOf returns: with handlers in the order of the events, without those and without second blocks in which there is nothing.
func tidy(n api.Node) []api.Node {
	var list []api.Node
	for _, item := range parser.Strip(n).Kids {
		if item.Kind == api.NodeProgram {
			list = append(list, tidyItem(item))
		}
	}
	return list
}

func tidyItem(item api.Node) api.Node {
	item = mapped(item, func(n api.Node) api.Node {
		if n.Kind == api.NodeIf && len(n.Kids) > 3 && len(n.Kids[3].Kids) == 0 {
			n.Kids = n.Kids[:3]
		}
		return n
	})
	item.Kids = slices.DeleteFunc(item.Kids, func(n api.Node) bool { return n.Kind == api.NodeOn && len(n.Kids) == 0 })
	slices.SortStableFunc(item.Kids, func(a, b api.Node) int {
		if a.Kind == api.NodeOn && b.Kind == api.NodeOn {
			return a.N - b.N
		}
		return a.Kind - b.Kind
	})
	return item
}

// mapped returns a copy of a tree in which each node is what f makes of it, from the leaves up.
func mapped(n api.Node, f func(api.Node) api.Node) api.Node {
	n.Kids = slices.Clone(n.Kids)
	for i := range n.Kids {
		n.Kids[i] = mapped(n.Kids[i], f)
	}
	return f(n)
}

// preorder calls f with each node of a tree, each one before those below it, and with the one above it.
func preorder(n, above api.Node, f func(n, above api.Node)) {
	f(n, above)
	for _, kid := range n.Kids {
		preorder(kid, n, f)
	}
}

// numbered returns a tree in which each node has an offset of its own, so that an offset tells the node. They increase as those of a source do.
func numbered(n api.Node) api.Node {
	next := 0
	var number func(n api.Node) api.Node
	number = func(n api.Node) api.Node {
		n.At, n.Kids = next, slices.Clone(n.Kids)
		next += 3
		for i := range n.Kids {
			n.Kids[i] = number(n.Kids[i])
		}
		return n
	}
	return number(n)
}

// kindAt returns the kind of the node with an offset in a tree that is numbered.
func kindAt(n api.Node, at int) int {
	kind := 0
	preorder(n, n, func(x, _ api.Node) {
		if x.At == at {
			kind = x.Kind
		}
	})
	return kind
}

// countOf returns how many nodes of a tree have a property.
func countOf(n api.Node, holds func(api.Node) bool) int {
	count := 0
	preorder(n, n, func(x, _ api.Node) {
		if holds(x) {
			count++
		}
	})
	return count
}

// size returns how many nodes a tree has.
func size(n api.Node) int { return countOf(n, func(api.Node) bool { return true }) }

func isStmt(n api.Node) bool { return n.Kind == api.NodeAssign || n.Kind == api.NodeIf }

// kidsOf returns the nodes of a kind below a node.
func kidsOf(n api.Node, kind int) []api.Node {
	return slices.DeleteFunc(slices.Clone(n.Kids), func(x api.Node) bool { return x.Kind != kind })
}
