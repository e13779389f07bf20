package ranges

import (
	"queuelab/api"
	"queuelab/interval"
)

// inputs has the range of each input.
var inputs = [api.Inputs]api.Span{
	api.InAcked: {Low: 1, High: 1000},
	api.InRtt:   {Low: 1, High: 10000000},
	api.InSize:  {Low: 1, High: 10000},
	api.InTotal: {Low: 0, High: 4000},
}

// scope has the variables of a program, with their ranges.
type scope []api.Var

// ranges returns the intervals of the variables at the beginning of a handler.
func (v scope) ranges() []api.Span {
	var vars []api.Span
	for _, x := range v {
		vars = append(vars, api.Span{Low: x.Low, High: x.High})
	}
	return vars
}

// stmts examines statements with intervals of the variables, which it changes, and returns those behind them; a flaw leaves it by a panic.
func (v scope) stmts(vars []api.Span, list []api.Stmt) []api.Span {
	for _, s := range list {
		if s.Kind == api.StAssign {
			vars[s.Var] = v.assigned(vars, s)
		} else {
			vars = v.condition(vars, s)
		}
	}
	return vars
}

// assigned returns the interval that an assignment gives to its variable.
func (v scope) assigned(vars []api.Span, s api.Stmt) api.Span {
	a, x := view{vars, inputs}.expr(s.A), v[s.Var]
	need(x.Low <= a.Low && a.High <= x.High, api.ErrOver)
	return a
}

// condition examines an if, each list with a copy of the intervals, and returns those behind it. At least one list can be reached: there are numbers in the relation or in its opposite, and only the interval of a variable that is compared with itself can then become empty, where the opposite relation leaves all of it.
func (v scope) condition(vars []api.Span, s api.Stmt) []api.Span {
	here := view{vars, inputs}
	a := side{s.A, here.expr(s.A)}
	b := side{s.B, here.expr(s.B)}
	var after []api.Span
	if then, ok := refine(vars, a, s.Rel, b); ok {
		after = v.stmts(then, s.Then)
	}
	if other, ok := refine(vars, a, opposites[s.Rel], b); ok {
		after = join(after, v.stmts(other, s.Else))
	}
	return after
}

// join returns the intervals of the variables behind both lists of an if, those behind the first one being missing if it cannot be reached.
func join(first, second []api.Span) []api.Span {
	if first == nil {
		return second
	}
	var vars []api.Span
	for i := range first {
		s, _ := interval.Join(first[i], second[i])
		vars = append(vars, s)
	}
	return vars
}
