package parser

import "queuelab/api"

// Valid reports whether a node is a tree of some source.
func Valid(n api.Node) bool {
	// The size comes first: a tree that was counted has an end, so that what follows has one.
	return spare(n, api.MaxTree) >= 0 && plain(n, api.NodeSource) && every(n.Kids, validItem)
}

// spare returns how many nodes are left of so many if those of a tree are taken; it is negative if they are too few.
func spare(n api.Node, nodes int) int {
	nodes--
	for i := 0; i < len(n.Kids) && nodes >= 0; i++ {
		nodes = spare(n.Kids[i], nodes)
	}
	return nodes
}

// plain reports whether a node has a kind, and nothing else but kids.
func plain(n api.Node, kind int) bool {
	return n.Kind == kind && n.Name == "" && n.N == 0 && n.Unit == 0
}

// named reports whether a node has a kind and a name, and nothing else but kids.
func named(n api.Node, kind int) bool {
	return n.Kind == kind && isName(n.Name) && n.N == 0 && n.Unit == 0
}

// take returns N of a node, and the node without it.
func take(n api.Node) (int, api.Node) {
	number := n.N
	n.N = 0
	return number, n
}

func between(n, low, high int) bool { return low <= n && n <= high }

func every(list []api.Node, holds func(api.Node) bool) bool { return leading(list, holds) == len(list) }

// leading returns how many nodes at the beginning of a list have a property.
func leading(list []api.Node, holds func(api.Node) bool) int {
	for i, n := range list {
		if !holds(n) {
			return i
		}
	}
	return len(list)
}

func validItem(n api.Node) bool {
	if !named(n, n.Kind) {
		return false
	}
	words := leading(n.Kids, validName)
	switch n.Kind {
	case api.NodeLink:
		return len(n.Kids) == 4 && validNumbers(n.Kids[:3], 3) && validPolicy(n.Kids[3])
	case api.NodePath:
		return words >= 1 && validNumbers(n.Kids[words:], 1)
	case api.NodeFlow:
		return words >= 2 && validNumbers(n.Kids[words:], 3)
	case api.NodeProgram:
		return validProgram(n.Kids)
	}
	return false
}

func validName(n api.Node) bool { return named(n, api.NodeName) && len(n.Kids) == 0 }

func validNumbers(list []api.Node, count int) bool {
	return len(list) == count && every(list, validNumber)
}

func validNumber(n api.Node) bool {
	number, n := take(n)
	return between(number, 0, api.MaxNumber) && plain(n, api.NodeNumber) && len(n.Kids) == 0
}

func validPolicy(n api.Node) bool {
	kind, n := take(n)
	return between(kind, api.PolTail, api.PolDual) && plain(n, api.NodePolicy) && validNumbers(n.Kids, policySize(kind))
}

func validProgram(kids []api.Node) bool {
	kids = kids[leading(kids, validVar):]
	kids = kids[leading(kids, validHandler):]
	for i, n := range kids {
		purpose, n := take(n)
		if purpose != i || !named(n, api.NodeUse) || len(n.Kids) > 0 {
			return false
		}
	}
	return between(len(kids), 1, 2)
}

func validVar(n api.Node) bool {
	unit, n := take(n)
	return between(unit, api.UnitNone, api.UnitRate) && named(n, api.NodeVar) && validNumbers(n.Kids, 3)
}

func validHandler(n api.Node) bool {
	event, n := take(n)
	return between(event, api.OnAck, api.OnPath) && plain(n, api.NodeOn) && validStmts(n.Kids, 1)
}

// validStmts checks statements of a level.
func validStmts(list []api.Node, level int) bool {
	return every(list, func(n api.Node) bool {
		if level > api.MaxDepth {
			return false
		}
		if n.Kind == api.NodeAssign {
			return named(n, api.NodeAssign) && len(n.Kids) == 1 && validExpr(n.Kids[0], 1)
		}
		return validIf(n, level)
	})
}

func validIf(n api.Node, level int) bool {
	relation, n := take(n)
	if !between(relation, api.RelLess, api.RelOther) || !plain(n, api.NodeIf) || !between(len(n.Kids), 3, 4) {
		return false
	}
	return validExpr(n.Kids[0], 1) && validExpr(n.Kids[1], 1) && every(n.Kids[2:], func(block api.Node) bool {
		return plain(block, api.NodeBlock) && validStmts(block.Kids, level+1)
	})
}

// validExpr checks an expression of a level.
func validExpr(n api.Node, level int) bool {
	switch {
	case level > api.MaxDepth:
		return false
	case n.Kind == api.NodeNumber:
		unit := n.Unit
		n.Unit = 0
		return between(unit, api.UnitNone, api.UnitRate) && validNumber(n)
	case n.Kind == api.NodeName && isInput(n.Name):
		n.Name = ""
		return plain(n, api.NodeName) && len(n.Kids) == 0
	case n.Kind == api.NodeName:
		return validName(n)
	}
	if !between(n.Kind, api.NodeAdd, api.NodeMax) || !plain(n, n.Kind) || len(n.Kids) != 2 {
		return false
	}
	left, right := leastTightness(n.Kind)
	return validOperand(n.Kids[0], left, level) && validOperand(n.Kids[1], right, level)
}

// validOperand checks an operand of an operation in an expression of a level; it is in parentheses if it does not bind as tightly as it must without them.
func validOperand(n api.Node, least, level int) bool {
	if tightness(n.Kind) < least {
		level++
	}
	return validExpr(n, level)
}

// tightness says how tightly the parts of an expression hold together.
func tightness(kind int) int {
	switch kind {
	case api.NodeAdd, api.NodeSub:
		return 1
	case api.NodeMul, api.NodeDiv:
		return 2
	}
	return 3
}

// leastTightness returns how tightly both operands of an operation must bind to need no parentheses: the second one more, since operators are read from left to right. Those of functions always are in parentheses.
func leastTightness(kind int) (left, right int) {
	if tightness(kind) == 3 {
		return 4, 4
	}
	return tightness(kind), tightness(kind) + 1
}
