package meaning_test

import (
	"math/big"
	"slices"
	"testing"

	"queuelab/api"
	"queuelab/meaning"
)

// floor is the greatest number that is not greater than x / y.
func floor(x, y *big.Int) *big.Int {
	if y.Sign() < 0 {
		x, y = new(big.Int).Neg(x), new(big.Int).Neg(y)
	}
	return new(big.Int).Div(x, y)
}

// wantedNumber is what the table of the chapter says of an expression with the values of its kids, without a limit; it is nil if the expression is not well-formed.
func wantedNumber(state []int, in [api.Inputs]int, e api.Expr, kids []*big.Int) *big.Int {
	switch {
	case e.Op == 1 && len(kids) == 0:
		return big.NewInt(int64(e.N))
	case e.Op == 2 && len(kids) == 0 && e.N >= 0 && e.N < len(state):
		return big.NewInt(int64(state[e.N]))
	case e.Op == 3 && len(kids) == 0 && e.N >= 0 && e.N < 4:
		return big.NewInt(int64(in[e.N]))
	case e.Op < 4 || e.Op > 10 || len(kids) != 2:
		return nil
	}
	x, y, n := kids[0], kids[1], new(big.Int)
	switch e.Op {
	case api.ExAdd:
		return n.Add(x, y)
	case api.ExSub:
		return n.Sub(x, y)
	case api.ExMul:
		return n.Mul(x, y)
	case api.ExDiv:
		return floor(x, y)
	case api.ExUp:
		// The least number that is not less is greater by 1, unless the quotient is a whole number.
		n = floor(x, y)
		if new(big.Int).Mul(n, y).Cmp(x) != 0 {
			n.Add(n, big.NewInt(1))
		}
		return n
	}
	if (x.Cmp(y) < 0) == (e.Op == api.ExMin) {
		return x
	}
	return y
}

// wantedValue is the specification of the value of an expression: all kids, then the form, then a divisor, then the limit.
func wantedValue(state []int, in [api.Inputs]int, e api.Expr) (*big.Int, api.Errno) {
	var kids []*big.Int
	for _, kid := range e.Kids {
		n, err := wantedValue(state, in, kid)
		if err != api.OK {
			return nil, err
		}
		kids = append(kids, n)
	}
	if (e.Op == 7 || e.Op == 8) && len(kids) == 2 && kids[1].Sign() == 0 {
		return nil, api.ErrZero
	}
	n := wantedNumber(state, in, e, kids)
	if n == nil {
		return nil, api.ErrArg
	}
	if n.CmpAbs(big.NewInt(most)) > 0 {
		return nil, api.ErrRange
	}
	return n, api.OK
}

// wantedEval is the specification of Eval.
func wantedEval(state []int, in [api.Inputs]int, e api.Expr) (int, api.Errno) {
	if nodesOf(e) > 60 {
		return 0, api.ErrLimit
	}
	n, err := wantedValue(state, in, e)
	if err != api.OK {
		return 0, err
	}
	return int(n.Int64()), api.OK
}

func nodesOf(e api.Expr) int {
	nodes := 1
	for _, kid := range e.Kids {
		nodes += nodesOf(kid)
	}
	return nodes
}

// related reports whether two numbers are in a relation.
func related(x, rel, y int) bool {
	return [...]bool{1: x < y, 2: x <= y, 3: x > y, 4: x >= y, 5: x == y, 6: x != y}[rel]
}

// wantedStmts is the specification of running statements; a state is not changed, but followed by another one.
func wantedStmts(p api.Program, state []int, in [api.Inputs]int, stmts []api.Stmt) ([]int, api.Errno) {
	if len(stmts) == 0 {
		return state, api.OK
	}
	s, rest := stmts[0], stmts[1:]
	a, err := wantedEval(state, in, s.A)
	if err != api.OK {
		return nil, err
	}
	if s.Kind == api.StAssign {
		if a < p.Vars[s.Var].Low || a > p.Vars[s.Var].High {
			return nil, api.ErrOver
		}
		return wantedStmts(p, slices.Concat(state[:s.Var], []int{a}, state[s.Var+1:]), in, rest)
	}
	b, err := wantedEval(state, in, s.B)
	if err != api.OK {
		return nil, err
	}
	chosen := s.Else
	if related(a, s.Rel, b) {
		chosen = s.Then
	}
	return wantedStmts(p, state, in, slices.Concat(chosen, rest))
}

// wantedRun is the specification of Run for valid programs.
func wantedRun(p api.Program, state []int, c api.Call) ([]int, api.Errno) {
	if len(state) != len(p.Vars) || c.Event < 0 || c.Event > 4 {
		return nil, api.ErrArg
	}
	for i, v := range p.Vars {
		if state[i] < v.Low || state[i] > v.High {
			return nil, api.ErrArg
		}
	}
	low, high := [...]int{1, 1, 1, 0}, [...]int{1000, 10000000, 10000, 4000}
	for i, n := range c.In {
		if n < low[i] || n > high[i] {
			return nil, api.ErrArg
		}
	}
	return wantedStmts(p, state, c.In, p.On[c.Event])
}

// P8.1: H2, all expressions of at most five nodes over few leaves.
func TestAllSmallExpressions(t *testing.T) {
	state, in := []int{-2, most/2 + 1, most + 1}, [api.Inputs]int{api.InRtt: 3}
	leaves := []api.Expr{plain(0), plain(2), plain(-7), variable(0), variable(1), variable(2), variable(3), input(api.InRtt)}
	small := slices.Clone(leaves)
	for op := 0; op <= 11; op++ {
		for _, a := range leaves {
			small = append(small, node(op, a))
			for _, b := range leaves {
				small = append(small, node(op, a, b))
			}
		}
	}
	count := map[api.Errno]int{}
	check := func(e api.Expr) {
		got, err := meaning.Eval(state, in, e)
		if want, wantErr := wantedEval(state, in, e); got != want || err != wantErr {
			t.Fatalf("%s: %v, %v; want %v, %v", brief(e), got, err, want, wantErr)
		}
		count[err]++
	}
	for _, a := range small {
		check(a)
		for op := api.ExInput; op <= api.ExMax; op++ {
			for _, b := range leaves {
				check(node(op, a, b))
				check(node(op, b, a))
			}
		}
	}
	for _, err := range []api.Errno{api.OK, api.ErrArg, api.ErrRange, api.ErrZero} {
		if count[err] < 500 {
			t.Errorf("%v", count)
		}
	}
}

// P8.1: H2, right and changed expressions over numbers of all sizes.
func TestEvalAsSpecified(t *testing.T) {
	count := map[api.Errno]int{}
	for m := range makers(80, 60000) {
		state, in := m.values(m.Intn(16)), [api.Inputs]int(m.values(api.Inputs))
		if len(state) > 0 && m.Intn(8) == 0 {
			state[m.Intn(len(state))] = pick(m, noValues()...)
		}
		if m.Intn(8) == 0 {
			in[m.Intn(4)] = pick(m, noValues()...)
		}
		e := m.anyExpr(len(state), m.Intn(8))
		for range m.Intn(3) {
			e = m.changedExpr(e)
		}
		got, err := meaning.Eval(state, in, e)
		if want, wantErr := wantedEval(state, in, e); got != want || err != wantErr {
			t.Fatalf("%v, %v, %s: %v, %v; want %v, %v", state, in, brief(e), got, err, want, wantErr)
		}
		count[err]++
	}
	for _, err := range []api.Errno{api.OK, api.ErrArg, api.ErrLimit, api.ErrRange, api.ErrZero} {
		if count[err] < 1000 {
			t.Errorf("%v", count)
		}
	}
}

// wrongNumber returns a number that is not from low to high, often just so.
func (m maker) wrongNumber(low, high int) int {
	return pick(m, low-1, high+1, min(-1, low-1-m.Intn(1000)), high+1+m.Intn(1000), -most)
}

// changedCall returns a state and a call of which one is mostly wrong in one place.
func (m maker) changedCall(state []int, c api.Call) ([]int, api.Call) {
	state = slices.Clone(state)
	switch m.Intn(4) {
	case 0:
		state = slices.Insert(state, m.Intn(len(state)+1), pick(m, state...))
	case 1:
		i := m.Intn(len(state))
		state[i] = m.wrongNumber(m.vars[i].Low, m.vars[i].High)
	case 2:
		i := m.Intn(4)
		c.In[i] = m.wrongNumber([]int{1, 1, 1, 0}[i], []int{1000, 10000000, 10000, 4000}[i])
	case 3:
		c.Event = pick(m, -1, 5, 1000)
	}
	return state, c
}

// P8.1: H3, all handlers of many programs.
func TestRunAsSpecified(t *testing.T) {
	count := map[api.Errno]int{}
	moved := 0
	for m := range makers(81, 5000) {
		source := m.source()
		p := programOf(t, source)
		for range 10 {
			state, c := m.state(), m.call()
			if m.Intn(10) == 0 {
				state, c = m.changedCall(state, c)
			}
			got, err := meaning.Run(p, state, c)
			if want, wantErr := wantedRun(p, state, c); !slices.Equal(got, want) || err != wantErr {
				t.Fatalf("%s: %v, %v: %v, %v; want %v, %v", source, state, c, got, err, want, wantErr)
			}
			count[err]++
			if err == api.OK && !slices.Equal(got, state) {
				moved++
			}
		}
		var first []int
		for _, v := range m.vars {
			first = append(first, v.Init)
		}
		if got, err := meaning.Start(p); !slices.Equal(got, first) || err != api.OK {
			t.Fatalf("%s: %v, %v", source, got, err)
		}
	}
	for _, err := range []api.Errno{api.OK, api.ErrArg, api.ErrOver, api.ErrRange, api.ErrZero} {
		if count[err] < 500 {
			t.Errorf("%v", count)
		}
	}
	if moved < 8000 {
		t.Errorf("only %d states were left", moved)
	}
}

// P8.1: H3, all states and calls of a small program.
func TestAllStates(t *testing.T) {
	p := withHandler(t, api.OnMark, "if w > v { if w - v == acked { w = w - acked; } else { v = v + acked; } } else { n = v / w + n * total / acked; v = v - w * 2; }")
	count := map[api.Errno]int{}
	for w := range 11 {
		for v := range 12 {
			for n := range 3 {
				for in := range 4 {
					state, c := []int{w, v, n, 5}, callOf(api.OnMark, in, 1, 1, in*in*in/2)
					got, err := meaning.Run(p, state, c)
					if want, wantErr := wantedRun(p, state, c); !slices.Equal(got, want) || err != wantErr {
						t.Fatalf("%v, %v: %v, %v; want %v, %v", state, c, got, err, want, wantErr)
					}
					count[err]++
				}
			}
		}
	}
	if count[api.OK] < 100 || count[api.ErrOver] < 100 || count[api.ErrArg] < 100 {
		t.Errorf("%v", count)
	}
}
