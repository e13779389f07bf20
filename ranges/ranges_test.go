package ranges_test

import (
	"fmt"
	"math"
	"slices"
	"testing"

	"queuelab/api"
	"queuelab/ranges"
)

const most = 1000000000000

func span(low, high int) api.Span { return api.Span{Low: low, High: high} }

func number(n, unit int) api.Expr         { return api.Expr{Op: api.ExNumber, N: n, Unit: unit} }
func packets(n int) api.Expr              { return number(n, api.UnitPackets) }
func plain(n int) api.Expr                { return number(n, api.UnitNone) }
func variable(n int) api.Expr             { return api.Expr{Op: api.ExVar, N: n} }
func input(n int) api.Expr                { return api.Expr{Op: api.ExInput, N: n} }
func node(op int, k ...api.Expr) api.Expr { return api.Expr{Op: op, Kids: k} }

func assign(variable int, a api.Expr) api.Stmt {
	return api.Stmt{Kind: api.StAssign, Var: variable, A: a}
}

func when(a api.Expr, rel int, b api.Expr, then, other []api.Stmt) api.Stmt {
	return api.Stmt{Kind: api.StIf, A: a, Rel: rel, B: b, Then: then, Else: other}
}

func list(stmts ...api.Stmt) []api.Stmt { return stmts }

// sum returns an expression of so many nodes (an odd number).
func sum(nodes int) api.Expr {
	e := plain(1)
	for range nodes / 2 {
		e = node(api.ExAdd, e, plain(1))
	}
	return e
}

// brief returns what a message says of a value.
func brief(x any) string {
	text := fmt.Sprintf("%+v", x)
	return text[:min(len(text), 500)]
}

// someInputs has an interval for each input, all of them different.
var someInputs = [api.Inputs]api.Span{api.InAcked: span(1, 7), api.InRtt: span(-20, 30), api.InSize: span(4, 4), api.InTotal: span(-most, most)}

func expectSpan(t *testing.T, vars []api.Span, e api.Expr, want api.Span) {
	t.Helper()
	if got, err := ranges.Eval(vars, someInputs, e); got != want || err != api.OK {
		t.Errorf("%s: %v, %v; want %v", brief(e), got, err, want)
	}
}

func expectError(t *testing.T, vars []api.Span, e api.Expr, want api.Errno) {
	t.Helper()
	if got, err := ranges.Eval(vars, someInputs, e); got != (api.Span{}) || err != want {
		t.Errorf("%s: %v, %v; want %v", brief(e), got, err, want)
	}
}

// programOf returns a program with a handler for an event, and four variables: two in packets, w from 1 to 100 and v from 0 to 10, and two without a unit, x from 0 to 1 and y from 5 to 1000000000.
func programOf(event int, stmts ...api.Stmt) api.Program {
	p := api.Program{Name: "p", Pace: -1, Vars: []api.Var{
		{Name: "w", Unit: api.UnitPackets, Low: 1, High: 100, Init: 2},
		{Name: "v", Unit: api.UnitPackets, Low: 0, High: 10, Init: 10},
		{Name: "x", Unit: api.UnitNone, Low: 0, High: 1, Init: 1},
		{Name: "y", Unit: api.UnitNone, Low: 5, High: 1000000000, Init: 5},
	}}
	p.On[event] = stmts
	return p
}

// expectFlaw checks a handler, for each event; the flaw that is wanted may be OK.
func expectFlaw(t *testing.T, want api.Errno, stmts ...api.Stmt) {
	t.Helper()
	for event := range api.Events {
		var flaws []api.Flaw
		if want != api.OK {
			flaws = []api.Flaw{{Event: event, Err: want}}
		}
		expectFlaws(t, programOf(event, stmts...), flaws...)
	}
}

func expectFlaws(t *testing.T, p api.Program, want ...api.Flaw) {
	t.Helper()
	if got, err := ranges.Flaws(p); !slices.Equal(got, want) || err != api.OK {
		t.Errorf("%s: %v, %v; want %v", brief(p.On), got, err, want)
	}
}

// P7.1: the section Examples.
func TestExamples(t *testing.T) {
	w := variable(0)
	more := assign(0, node(api.ExAdd, w, packets(1)))
	expectFlaw(t, api.ErrOver, more)
	expectFlaw(t, api.OK, when(w, api.RelLess, packets(100), list(more), nil))
	expectFlaw(t, api.OK, assign(0, node(api.ExMax, node(api.ExDiv, w, plain(2)), packets(1))))
	total := node(api.ExDiv, input(api.InTotal), packets(1))
	expectFlaw(t, api.ErrZero, assign(0, node(api.ExDiv, node(api.ExMul, w, plain(1000)), total)))
	expectFlaw(t, api.OK, when(w, api.RelAtLeast, packets(1), nil, list(assign(0, node(api.ExSub, w, packets(500))))))
}

// P7.1: G1, expressions without kids.
func TestLeaves(t *testing.T) {
	vars := []api.Span{span(2, 5), span(-3, 4), {}, span(-most, most)}
	for i, s := range vars {
		expectSpan(t, vars, variable(i), s)
	}
	for i, s := range someInputs {
		expectSpan(t, vars, input(i), s)
		expectSpan(t, nil, input(i), s)
	}
	for _, n := range []int{0, 1, 5, 999999999, 1000000000} {
		expectSpan(t, vars, plain(n), span(n, n))
		expectSpan(t, nil, plain(n), span(n, n))
	}
	twelve := make([]api.Span, 12)
	twelve[11] = span(8, 9)
	expectSpan(t, twelve, variable(11), span(8, 9))
	expectError(t, twelve, variable(12), api.ErrArg)
}

// P7.1: G1, each operation is that of its number.
func TestOperations(t *testing.T) {
	vars := []api.Span{span(6, 20), span(2, 3)}
	a, b := variable(0), variable(1)
	for op, want := range map[int]api.Span{
		api.ExAdd: span(8, 23), api.ExSub: span(3, 18), api.ExMul: span(12, 60), api.ExDiv: span(2, 10), api.ExUp: span(2, 10), api.ExMin: span(2, 3), api.ExMax: span(6, 20),
	} {
		expectSpan(t, vars, node(op, a, b), want)
	}
	for op, want := range map[int]api.Span{
		api.ExAdd: span(8, 23), api.ExSub: span(-18, -3), api.ExMul: span(12, 60), api.ExDiv: span(0, 0), api.ExUp: span(1, 1), api.ExMin: span(2, 3), api.ExMax: span(6, 20),
	} {
		expectSpan(t, vars, node(op, b, a), want)
	}
	expectSpan(t, vars, node(api.ExDiv, plain(7), b), span(2, 3))
	expectSpan(t, vars, node(api.ExUp, plain(7), b), span(3, 4))
	// Both sides are evaluated on their own, also where they are the same.
	expectSpan(t, vars, node(api.ExSub, a, a), span(-14, 14))
	expectSpan(t, vars, node(api.ExMul, node(api.ExSub, b, plain(3)), node(api.ExAdd, a, input(api.InSize))), span(-24, 0))
}

// P7.1: G1, errors of operations.
func TestErrorsOfOperations(t *testing.T) {
	vars := []api.Span{span(-1, 1), span(0, 3), span(-3, 0), span(1, most)}
	for zero := range 3 {
		for _, op := range []int{api.ExDiv, api.ExUp} {
			expectError(t, vars, node(op, plain(1), variable(zero)), api.ErrZero)
			expectError(t, vars, node(op, variable(zero), node(api.ExMul, variable(zero), plain(5))), api.ErrZero)
		}
	}
	great := node(api.ExMul, plain(1000000000), plain(1000))
	expectSpan(t, vars, great, span(most, most))
	expectSpan(t, vars, node(api.ExSub, plain(0), great), span(-most, -most))
	expectError(t, vars, node(api.ExAdd, great, variable(1)), api.ErrRange)
	expectError(t, vars, node(api.ExSub, variable(2), great), api.ErrRange)
	expectError(t, vars, node(api.ExMul, variable(3), plain(2)), api.ErrRange)
	expectSpan(t, vars, node(api.ExDiv, great, variable(3)), span(1, most))
	// A product that is too great is an error even if it is divided again.
	expectError(t, vars, node(api.ExDiv, node(api.ExMul, great, plain(2)), plain(2)), api.ErrRange)
}

// P7.1: expressions that are not well-formed.
func TestWrongExpressions(t *testing.T) {
	vars := []api.Span{span(2, 5), span(1, 1)}
	wrong := []api.Expr{{}, plain(-1), plain(1000000001), plain(math.MinInt), plain(math.MaxInt),
		variable(-1), variable(2), variable(12), variable(math.MinInt), variable(math.MaxInt), input(-1), input(4), input(math.MinInt), input(math.MaxInt)}
	one := plain(1)
	for _, op := range []int{-1, 0, 11, 12, math.MinInt, math.MaxInt} {
		wrong = append(wrong, node(op), node(op, one), node(op, one, one))
	}
	for op := api.ExNumber; op <= api.ExInput; op++ {
		wrong = append(wrong, node(op, one), node(op, one, one), node(op, one, one, one))
	}
	for op := api.ExAdd; op <= api.ExMax; op++ {
		wrong = append(wrong, node(op), node(op, one), node(op, one, one, one))
	}
	for _, e := range wrong {
		expectError(t, vars, e, api.ErrArg)
		expectError(t, vars, node(api.ExAdd, one, e), api.ErrArg)
		expectError(t, vars, node(api.ExMin, e, one), api.ErrArg)
	}
}

// P7.1: the error is that of the first kid that has one, and what is wrong with the expression itself comes last.
func TestFirstError(t *testing.T) {
	one := plain(1)
	zero := node(api.ExDiv, one, plain(0))
	great := node(api.ExMul, plain(1000000000), plain(1001))
	for _, x := range []struct {
		e   api.Expr
		err api.Errno
	}{{zero, api.ErrZero}, {great, api.ErrRange}, {plain(-1), api.ErrArg}} {
		for _, op := range []int{-1, 0, api.ExNumber, api.ExVar, api.ExInput, api.ExAdd, api.ExDiv, api.ExUp, api.ExMax, 11} {
			for _, last := range []api.Expr{one, zero, great, plain(-1), plain(0)} {
				expectError(t, nil, node(op, x.e), x.err)
				expectError(t, nil, node(op, x.e, last), x.err)
				expectError(t, nil, node(op, one, x.e, last), x.err)
				expectError(t, nil, node(op, one, one, one, x.e, last), x.err)
				expectError(t, nil, node(op, node(op, x.e, one), last), x.err)
			}
			expectError(t, nil, node(op, one, x.e), x.err)
		}
	}
}

// wrongSpans returns intervals that are not valid.
func wrongSpans() []api.Span {
	return []api.Span{span(1, 0), span(most, -most), span(0, most+1), span(-most-1, 0), span(most+1, most+1), span(-most-1, -most-1), span(math.MinInt, math.MaxInt), span(math.MaxInt, math.MinInt)}
}

// P7.1: the errors of G1, in their order.
func TestErrorsOfEval(t *testing.T) {
	zero := node(api.ExDiv, plain(1), plain(0))
	inputs := [api.Inputs]api.Span{}
	for _, e := range []api.Expr{plain(1), {}, zero, sum(61)} {
		for _, count := range []int{13, 14, 1000} {
			expectError(t, make([]api.Span, count), e, api.ErrArg)
		}
		for _, s := range wrongSpans() {
			for i := range 12 {
				vars := make([]api.Span, 12)
				vars[i] = s
				expectError(t, vars, e, api.ErrArg)
				expectError(t, vars[:i+1], e, api.ErrArg)
			}
			for i := range inputs {
				wrong := inputs
				wrong[i] = s
				if got, err := ranges.Eval(nil, wrong, e); got != (api.Span{}) || err != api.ErrArg {
					t.Errorf("input %d, %v: %v, %v", i, s, got, err)
				}
			}
		}
	}
	for _, s := range []api.Span{span(-most, -most), span(-most, most), span(most, most), span(0, 0)} {
		expectSpan(t, slices.Repeat([]api.Span{s}, 12), variable(11), s)
	}
	expectSpan(t, nil, sum(59), span(30, 30))
	expectError(t, nil, sum(61), api.ErrLimit)
	expectError(t, nil, node(api.ExAdd, sum(59), zero), api.ErrLimit)
	expectError(t, nil, node(api.ExAdd, zero, sum(59)), api.ErrLimit)
	expectError(t, nil, node(0, sum(59), plain(-1)), api.ErrLimit)
	expectError(t, nil, node(api.ExAdd, sum(55), zero), api.ErrZero)
}

// P7.1: the limit of nodes, whatever the shape; 60 nodes are possible only in expressions that are not well-formed.
func TestLongExpressions(t *testing.T) {
	chain := func(nodes int) api.Expr {
		e := plain(1)
		for range nodes - 1 {
			e = node(api.ExAdd, e)
		}
		return e
	}
	wide := func(nodes int) api.Expr { return node(api.ExMin, slices.Repeat([]api.Expr{plain(1)}, nodes-1)...) }
	for _, make := range []func(nodes int) api.Expr{chain, wide} {
		expectError(t, nil, make(60), api.ErrArg)
		for _, nodes := range []int{61, 62, 121, 100000} {
			expectError(t, nil, make(nodes), api.ErrLimit)
		}
	}
	both := node(api.ExAdd, chain(30), wide(29))
	expectError(t, nil, both, api.ErrArg)
	expectError(t, nil, node(api.ExAdd, chain(30), wide(30)), api.ErrLimit)
	// A slice of expressions may contain itself: once, or more and more often with each level.
	for kids := 1; kids <= 3; kids++ {
		e := node(api.ExAdd, make([]api.Expr, kids)...)
		for i := range e.Kids {
			e.Kids[i] = e
		}
		expectError(t, nil, e, api.ErrLimit)
	}
}

// P7.1: fields without a meaning do not matter, nor does the unit of a number.
func TestOtherFields(t *testing.T) {
	vars := []api.Span{span(2, 5)}
	for _, n := range []int{-1, 1, 5, 1000000001} {
		expectSpan(t, vars, api.Expr{Op: api.ExNumber, N: 3, Unit: n}, span(3, 3))
		expectSpan(t, vars, api.Expr{Op: api.ExVar, N: 0, Unit: n}, span(2, 5))
		expectSpan(t, vars, api.Expr{Op: api.ExMul, N: n, Unit: n, Kids: []api.Expr{variable(0), plain(2)}}, span(4, 10))
	}
}
