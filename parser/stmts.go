package parser

import "queuelab/api"

// stmts reads statements of a level, with the braces around them.
func (r *reader) stmts(level int) []api.Node {
	var list []api.Node
	r.word("{")
	for !r.is("}") {
		list = append(list, r.stmt(level))
	}
	r.word("}")
	return list
}

func (r *reader) stmt(level int) api.Node {
	// Only what begins a statement is one of too high a level; anything else is a wrong token.
	if level > api.MaxDepth && (r.is("if") || r.atName()) {
		r.fail(api.ErrLimit)
	}
	if r.is("if") {
		return r.condition(level)
	}
	n := api.Node{Kind: api.NodeAssign, At: r.token().At}
	n.Name = r.name()
	r.word("=")
	n.Kids = []api.Node{r.expr(1)}
	r.word(";")
	return n
}

func (r *reader) condition(level int) api.Node {
	n := api.Node{Kind: api.NodeIf, At: r.token().At}
	r.word("if")
	left := r.expr(1)
	n.N = api.RelLess + r.choice("<", "<=", ">", ">=", "==", "!=")
	n.Kids = []api.Node{left, r.expr(1), r.block(level)}
	if r.is("else") {
		r.word("else")
		n.Kids = append(n.Kids, r.block(level))
	}
	return n
}

// block reads a block of a statement of a level.
func (r *reader) block(level int) api.Node {
	n := api.Node{Kind: api.NodeBlock, At: r.token().At}
	n.Kids = r.stmts(level + 1)
	return n
}

func (r *reader) expr(level int) api.Node {
	if level > api.MaxDepth && r.atExpr() {
		r.fail(api.ErrLimit)
	}
	return r.operands(level, r.term, api.NodeAdd, "+", "-")
}

func (r *reader) term(level int) api.Node {
	return r.operands(level, r.factor, api.NodeMul, "*", "/")
}

// operands reads what a finer function reads, with operators between; first is the kind of the first of these.
func (r *reader) operands(level int, finer func(level int) api.Node, first int, operators ...string) api.Node {
	at := r.token().At
	n := finer(level)
	for r.among(operators...) >= 0 {
		kind := first + r.choice(operators...)
		n = api.Node{Kind: kind, At: at, Kids: []api.Node{n, finer(level)}}
	}
	return n
}

// atExpr reports whether the next token can begin an expression.
func (r *reader) atExpr() bool {
	x := r.token()
	return x.Kind == api.TokNumber || r.atName() || isInput(x.Text) || r.among("up", "min", "max", "(") >= 0
}

func (r *reader) factor(level int) api.Node {
	x := r.token()
	switch {
	case x.Kind == api.TokNumber:
		return r.amount()
	case r.atName() || isInput(x.Text):
		r.next++
		return api.Node{Kind: api.NodeName, Name: x.Text, At: x.At}
	case r.is("("):
		r.word("(")
		n := r.expr(level + 1)
		r.word(")")
		return n
	}
	return r.function(level)
}

// amount reads a number with its unit, if it has one.
func (r *reader) amount() api.Node {
	n := r.number()
	if r.among(unitWords()...) >= 0 {
		n.Unit = r.choice(unitWords()...)
	}
	return n
}

func (r *reader) function(level int) api.Node {
	n := api.Node{At: r.token().At}
	n.Kind = api.NodeUp + r.choice("up", "min", "max")
	r.word("(")
	left := r.expr(level + 1)
	r.word(",")
	n.Kids = []api.Node{left, r.expr(level + 1)}
	r.word(")")
	return n
}
