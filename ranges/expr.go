package ranges

import (
	"queuelab/api"
	"queuelab/interval"
)

// view has the intervals of the variables and of the inputs with which an expression is evaluated.
type view struct {
	vars []api.Span
	in   [api.Inputs]api.Span
}

// isLong reports whether an expression has too many nodes. It looks at no more of them than there may be, since a slice of expressions may contain itself.
func isLong(e api.Expr) bool {
	found := []api.Expr{e}
	for i := 0; i < len(found); i++ {
		kids := found[i].Kids
		if len(found)+len(kids) > api.MaxExpr {
			return true
		}
		found = append(found, kids...)
	}
	return false
}

// expr returns the interval of an expression that is not long; its error leaves it by a panic.
func (v view) expr(e api.Expr) api.Span {
	// All kids come first: their errors go before what is wrong with the expression itself.
	var kids []api.Span
	for _, kid := range e.Kids {
		kids = append(kids, v.expr(kid))
	}
	s, err := api.Span{}, api.ErrArg
	switch len(kids) {
	case 0:
		s, err = v.leaf(e)
	case 2:
		s, err = operate(e.Op, kids[0], kids[1])
	}
	need(err == api.OK, err)
	return s
}

// leaf returns the interval of an expression without kids.
func (v view) leaf(e api.Expr) (api.Span, api.Errno) {
	switch {
	case e.Op == api.ExNumber && 0 <= e.N && e.N <= api.MaxNumber:
		return api.Span{Low: e.N, High: e.N}, api.OK
	case e.Op == api.ExVar && isIndex(e.N, len(v.vars)):
		return v.vars[e.N], api.OK
	case e.Op == api.ExInput && isIndex(e.N, len(v.in)):
		return v.in[e.N], api.OK
	}
	return api.Span{}, api.ErrArg
}

// isIndex reports whether a number is an index of a list of some length.
func isIndex(n, length int) bool { return 0 <= n && n < length }

// operate returns the interval of an operation.
func operate(op int, a, b api.Span) (api.Span, api.Errno) {
	switch op {
	case api.ExAdd:
		return interval.Add(a, b)
	case api.ExSub:
		return interval.Sub(a, b)
	case api.ExMul:
		return interval.Mul(a, b)
	case api.ExDiv:
		return interval.Div(a, b)
	case api.ExUp:
		return interval.Up(a, b)
	case api.ExMin:
		return interval.Min(a, b)
	case api.ExMax:
		return interval.Max(a, b)
	}
	return api.Span{}, api.ErrArg
}
