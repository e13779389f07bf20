package meaning

import "queuelab/api"

// inputs has the range of each input.
var inputs = [api.Inputs]api.Span{
	api.InAcked: {Low: 1, High: 1000},
	api.InRtt:   {Low: 1, High: 10000000},
	api.InSize:  {Low: 1, High: 10000},
	api.InTotal: {Low: 0, High: 4000},
}

// isCall reports whether a call is valid.
func isCall(c api.Call) bool {
	for i, n := range c.In {
		if !between(n, inputs[i].Low, inputs[i].High) {
			return false
		}
	}
	return isIndex(c.Event, api.Events)
}

// isState reports whether numbers are a state of some variables.
func isState(vars []api.Var, state []int) bool {
	if len(state) != len(vars) {
		return false
	}
	for i, v := range vars {
		if !between(state[i], v.Low, v.High) {
			return false
		}
	}
	return true
}

// runner runs statements: it changes the state from which its expressions read.
type runner struct {
	vars []api.Var
	reader
}

// run runs statements; the first error ends the run.
func (r runner) run(list []api.Stmt) {
	for _, s := range list {
		if s.Kind == api.StAssign {
			r.assign(s)
		} else {
			r.run(r.chosen(s))
		}
	}
}

// assign gives a variable its value.
func (r runner) assign(s api.Stmt) {
	n, v := r.value(s.A), r.vars[s.Var]
	need(between(n, v.Low, v.High), api.ErrOver)
	r.state[s.Var] = n
}

// chosen returns the statements that an if chooses.
func (r runner) chosen(s api.Stmt) []api.Stmt {
	a := r.value(s.A)
	b := r.value(s.B)
	if areRelated(a, s.Rel, b) {
		return s.Then
	}
	return s.Else
}

// areRelated reports whether two values are in a relation.
func areRelated(a, rel, b int) bool {
	switch rel {
	case api.RelLess:
		return a < b
	case api.RelAtMost:
		return a <= b
	case api.RelMore:
		return a > b
	case api.RelAtLeast:
		return a >= b
	case api.RelEqual:
		return a == b
	}
	return a != b
}
