package units

import "queuelab/api"

// scope has the powers of the variables.
type scope []powers

// scopeOf returns the scope of some variables, and whether it has one.
func scopeOf(vars []api.Var) (scope, bool) {
	if len(vars) > api.MaxVars {
		return nil, false
	}
	var s scope
	for _, v := range vars {
		if !isKind(v.Unit) {
			return nil, false
		}
		s = append(s, kinds[v.Unit])
	}
	return s, true
}

// isLong reports whether an expression has too many nodes.
func isLong(e api.Expr) bool { return spare(e, api.MaxExpr) < 0 }

// spare returns how many nodes are left of so many if those of an expression are taken; it is negative if they are too few.
func spare(e api.Expr, nodes int) int {
	nodes--
	// It stops as soon as they are too few, since a slice of expressions may contain itself.
	for i := 0; i < len(e.Kids) && nodes >= 0; i++ {
		nodes = spare(e.Kids[i], nodes)
	}
	return nodes
}

// infer returns the powers of an expression that is not long, or its error.
func (s scope) infer(e api.Expr) (p powers, err api.Errno) {
	defer func() {
		if failure, ok := recover().(api.Errno); ok {
			err = failure
		}
	}()
	return s.expr(e), api.OK
}

// expr returns the powers of an expression; its error leaves it by a panic.
func (s scope) expr(e api.Expr) powers {
	// All kids come first: their errors go before what is wrong with the expression itself.
	var kids []powers
	for _, kid := range e.Kids {
		kids = append(kids, s.expr(kid))
	}
	need(s.isFormed(e), api.ErrArg)
	switch e.Op {
	case api.ExNumber:
		return kinds[e.Unit]
	case api.ExVar:
		return s[e.N]
	case api.ExInput:
		return kinds[inputs[e.N]]
	case api.ExMul:
		return limited(add(kids[0], kids[1], 1))
	case api.ExDiv, api.ExUp:
		return limited(add(kids[0], kids[1], -1))
	}
	need(kids[0] == kids[1], api.ErrUnit)
	return kids[0]
}

// isFormed reports whether an expression is well-formed, apart from its kids.
func (s scope) isFormed(e api.Expr) bool {
	switch e.Op {
	case api.ExNumber:
		return len(e.Kids) == 0 && between(e.N, 0, api.MaxNumber) && isKind(e.Unit)
	case api.ExVar:
		return len(e.Kids) == 0 && isIndex(e.N, len(s))
	case api.ExInput:
		return len(e.Kids) == 0 && isIndex(e.N, len(inputs))
	}
	return len(e.Kids) == 2 && between(e.Op, api.ExAdd, api.ExMax)
}

// limited returns powers that are in their range.
func limited(p powers) powers {
	need(p.inRange(), api.ErrUnit)
	return p
}

// need leaves the expression with an error, unless something holds.
func need(holds bool, err api.Errno) {
	if !holds {
		panic(err)
	}
}
