package ranges

import (
	"slices"

	"queuelab/api"
)

// opposites has for each relation the one in which two numbers are exactly if they are not in this one.
var opposites = [...]int{
	api.RelLess:    api.RelAtLeast,
	api.RelAtMost:  api.RelMore,
	api.RelMore:    api.RelAtMost,
	api.RelAtLeast: api.RelLess,
	api.RelEqual:   api.RelOther,
	api.RelOther:   api.RelEqual,
}

// converses has for each relation the one that B has to A if A is in this one to B.
var converses = [...]int{
	api.RelLess:    api.RelMore,
	api.RelAtMost:  api.RelAtLeast,
	api.RelMore:    api.RelLess,
	api.RelAtLeast: api.RelAtMost,
	api.RelEqual:   api.RelEqual,
	api.RelOther:   api.RelOther,
}

// side is one of two expressions that are compared, with its interval.
type side struct {
	e api.Expr
	s api.Span
}

// refine returns the intervals of the variables refined by a relation of two sides, and whether there are runs in which they are in it.
func refine(vars []api.Span, a side, rel int, b side) ([]api.Span, bool) {
	// What is left of an interval is not empty exactly if a number in it is in the relation to one of the other interval.
	if isEmpty(cut(a.s, rel, b.s)) {
		return nil, false
	}
	vars = slices.Clone(vars)
	if a.e.Op == api.ExVar {
		vars[a.e.N] = cut(vars[a.e.N], rel, b.s)
	}
	if b.e.Op == api.ExVar {
		vars[b.e.N] = cut(vars[b.e.N], converses[rel], a.s)
	}
	return vars, !slices.ContainsFunc(vars, isEmpty)
}

func isEmpty(s api.Span) bool { return s.Low > s.High }

// cut returns what remains of an interval if its numbers are in a relation to numbers of another one; it may be empty.
func cut(s api.Span, rel int, b api.Span) api.Span {
	switch rel {
	case api.RelLess:
		s.High = min(s.High, b.High-1)
	case api.RelAtMost:
		s.High = min(s.High, b.High)
	case api.RelMore:
		s.Low = max(s.Low, b.Low+1)
	case api.RelAtLeast:
		s.Low = max(s.Low, b.Low)
	case api.RelEqual:
		s = api.Span{Low: max(s.Low, b.Low), High: min(s.High, b.High)}
	case api.RelOther:
		if b.Low == b.High {
			return without(s, b.Low)
		}
	}
	return s
}

// without returns an interval without a number, if this is one of its ends.
func without(s api.Span, n int) api.Span {
	if s.Low == n {
		s.Low++
	} else if s.High == n {
		s.High--
	}
	return s
}
