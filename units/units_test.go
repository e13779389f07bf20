package units_test

import (
	"cmp"
	"fmt"
	"math"
	"slices"
	"testing"

	"queuelab/api"
	"queuelab/units"
)

func number(n, unit int) api.Expr         { return api.Expr{Op: api.ExNumber, N: n, Unit: unit} }
func variable(n int) api.Expr             { return api.Expr{Op: api.ExVar, N: n} }
func input(n int) api.Expr                { return api.Expr{Op: api.ExInput, N: n} }
func node(op int, k ...api.Expr) api.Expr { return api.Expr{Op: op, Kids: k} }

func assign(variable int, a api.Expr) api.Stmt {
	return api.Stmt{Kind: api.StAssign, Var: variable, A: a}
}

func when(a, b api.Expr, then ...api.Stmt) api.Stmt {
	return api.Stmt{Kind: api.StIf, Rel: api.RelLess, A: a, B: b, Then: then}
}

// unit returns the one with some exponents of packets, bytes and time.
func unit(packets, bytes, time int) api.Unit {
	return api.Unit{Packets: packets, Bytes: bytes, Time: time}
}

// kindVars returns a variable of each kind; its index is the kind.
func kindVars() []api.Var {
	return []api.Var{{Unit: api.UnitNone}, {Unit: api.UnitPackets}, {Unit: api.UnitBytes}, {Unit: api.UnitTime}, {Unit: api.UnitRate}}
}

// sum returns an expression without a unit, of so many nodes (an odd number).
func sum(nodes int) api.Expr {
	e := number(1, api.UnitNone)
	for range nodes / 2 {
		e = node(api.ExAdd, e, number(1, api.UnitNone))
	}
	return e
}

// brief returns what a message says of a value.
func brief(x any) string {
	text := fmt.Sprintf("%+v", x)
	return text[:min(len(text), 500)]
}

func expectUnit(t *testing.T, vars []api.Var, e api.Expr, want api.Unit) {
	t.Helper()
	if got, err := units.Infer(vars, e); got != want || err != api.OK {
		t.Errorf("%s: %v, %v; want %v", brief(e), got, err, want)
	}
}

func expectError(t *testing.T, vars []api.Var, e api.Expr, want api.Errno) {
	t.Helper()
	if got, err := units.Infer(vars, e); got != (api.Unit{}) || err != want {
		t.Errorf("%v, %v; want %v", got, err, want)
	}
}

// expectHandler checks a handler with a variable of each kind, for each event.
func expectHandler(t *testing.T, want api.Errno, list ...api.Stmt) {
	t.Helper()
	for event := range api.Events {
		p := api.Program{Vars: kindVars()}
		p.On[event] = list
		first := event
		if want == api.OK {
			first = -1
		}
		if got, err := units.Check(p); got != first || err != want {
			t.Errorf("event %d: %d, %v; want %v", event, got, err, want)
		}
	}
}

// P4.1: D1.
func TestKinds(t *testing.T) {
	for kind, want := range map[int]api.Unit{api.UnitNone: {}, api.UnitPackets: {Packets: 1}, api.UnitBytes: {Bytes: 1}, api.UnitTime: {Time: 1}, api.UnitRate: {Bytes: 1, Time: -1}} {
		if got, err := units.Of(kind); got != want || err != api.OK {
			t.Errorf("%d: %v, %v", kind, got, err)
		}
	}
	for _, kind := range []int{-1, 5, 6, 100, math.MinInt, math.MaxInt} {
		if got, err := units.Of(kind); got != (api.Unit{}) || err != api.ErrKind {
			t.Errorf("%d: %v, %v", kind, got, err)
		}
	}
}

// P4.1, and the section Examples.
func TestExamples(t *testing.T) {
	vars := []api.Var{{Name: "w", Unit: api.UnitPackets}, {Name: "p", Unit: api.UnitRate}}
	w, p, size, rtt := variable(0), variable(1), input(api.InSize), input(api.InRtt)
	expectUnit(t, vars, node(api.ExAdd, w, number(1, api.UnitPackets)), unit(1, 0, 0))
	expectError(t, vars, node(api.ExAdd, w, number(1, api.UnitNone)), api.ErrUnit)
	expectUnit(t, vars, node(api.ExDiv, node(api.ExMul, size, number(8, api.UnitNone)), rtt), unit(0, 1, -1))
	expectUnit(t, vars, node(api.ExDiv, node(api.ExMul, p, rtt), size), unit(0, 0, 0))
	power := w
	for exponent := 2; exponent <= 4; exponent++ {
		power = node(api.ExMul, power, w)
		expectUnit(t, vars, power, unit(exponent, 0, 0))
	}
	expectError(t, vars, node(api.ExMul, power, w), api.ErrUnit)
}

// P4.1: numbers, variables and inputs.
func TestLeaves(t *testing.T) {
	for kind := range kindVars() {
		want, _ := units.Of(kind)
		expectUnit(t, kindVars(), variable(kind), want)
		for _, n := range []int{0, 1, 1000000000} {
			expectUnit(t, nil, number(n, kind), want)
		}
	}
	expectUnit(t, nil, input(api.InAcked), unit(1, 0, 0))
	expectUnit(t, nil, input(api.InRtt), unit(0, 0, 1))
	expectUnit(t, nil, input(api.InSize), unit(0, 1, 0))
	expectUnit(t, nil, input(api.InTotal), unit(1, 0, 0))
	expectUnit(t, slices.Repeat([]api.Var{{Unit: api.UnitTime}}, 12), variable(11), unit(0, 0, 1))
}

// P4.1: expressions that are not well-formed.
func TestWrongExpressions(t *testing.T) {
	wrong := []api.Expr{{}, number(-1, 0), number(1000000001, 0), number(math.MinInt, 0), number(math.MaxInt, 0), number(1, -1), number(1, 5), number(1, math.MaxInt), number(1, math.MinInt),
		variable(-1), variable(5), variable(12), variable(math.MinInt), variable(math.MaxInt), input(-1), input(4), input(math.MinInt), input(math.MaxInt)}
	one := number(1, 0)
	for _, op := range []int{-1, 0, 11, 12, math.MinInt, math.MaxInt} {
		wrong = append(wrong, node(op), node(op, one), node(op, one, one))
	}
	for op := api.ExNumber; op <= api.ExInput; op++ {
		wrong = append(wrong, node(op, one), node(op, one, one))
	}
	for op := api.ExAdd; op <= api.ExMax; op++ {
		wrong = append(wrong, node(op), node(op, one), node(op, one, one, one))
	}
	for _, e := range wrong {
		expectError(t, kindVars(), e, api.ErrArg)
		for op := api.ExAdd; op <= api.ExMax; op++ {
			expectError(t, kindVars(), node(op, e, one), api.ErrArg)
			expectError(t, kindVars(), node(op, one, e), api.ErrArg)
			expectError(t, kindVars(), node(op, node(op, one, e), one), api.ErrArg)
		}
	}
	expectError(t, nil, variable(0), api.ErrArg)
	expectError(t, make([]api.Var, 1), variable(1), api.ErrArg)
}

// P4.1: the errors of kids come first, in their order, then ErrArg, then ErrUnit.
func TestOrderInExpressions(t *testing.T) {
	one, packet := number(1, api.UnitNone), number(1, api.UnitPackets)
	arg, misfit := variable(9), node(api.ExAdd, one, packet)
	for op := -1; op <= 12; op++ {
		expectError(t, nil, node(op, arg), api.ErrArg)
		expectError(t, nil, node(op, misfit), api.ErrUnit)
		expectError(t, nil, node(op, one, misfit), api.ErrUnit)
		expectError(t, nil, node(op, arg, misfit), api.ErrArg)
		expectError(t, nil, node(op, misfit, arg), api.ErrUnit)
		expectError(t, nil, node(op, one, one, misfit, arg), api.ErrUnit)
		expectError(t, nil, node(op, one, packet, arg, misfit), api.ErrArg)
		expectError(t, nil, node(op, one, packet, packet), api.ErrArg)
		expectError(t, nil, node(op, node(op, misfit, arg), arg), api.ErrUnit)
	}
}

// P4.1: exponents are from -4 to 4, each of the three.
func TestExponents(t *testing.T) {
	for kind, one := range map[int]api.Unit{api.UnitPackets: unit(1, 0, 0), api.UnitBytes: unit(0, 1, 0), api.UnitTime: unit(0, 0, 1), api.UnitRate: unit(0, 1, -1)} {
		times := func(n int) api.Unit { return unit(n*one.Packets, n*one.Bytes, n*one.Time) }
		up, down := number(1, api.UnitNone), number(1, api.UnitNone)
		for n := range 5 {
			expectUnit(t, nil, up, times(n))
			expectUnit(t, nil, down, times(-n))
			up, down = node(api.ExMul, up, number(1, kind)), node(api.ExDiv, down, number(1, kind))
		}
		for _, e := range []api.Expr{up, down, node(api.ExUp, down.Kids[0], number(1, kind)), node(api.ExMul, number(1, kind), up.Kids[0]), node(api.ExMul, down.Kids[0], down.Kids[0]), node(api.ExMul, up.Kids[0], up.Kids[0]), node(api.ExUp, up.Kids[0], down.Kids[0]), node(api.ExDiv, down.Kids[0], up.Kids[0])} {
			expectError(t, nil, e, api.ErrUnit)
			// What would be in the range again behind it does not matter.
			expectError(t, nil, node(api.ExDiv, e, e), api.ErrUnit)
		}
		expectUnit(t, nil, node(api.ExMul, up.Kids[0], down.Kids[0]), unit(0, 0, 0))
		expectUnit(t, nil, node(api.ExDiv, up.Kids[0], up.Kids[0]), unit(0, 0, 0))
		expectUnit(t, nil, node(api.ExUp, down.Kids[0], down.Kids[0]), unit(0, 0, 0))
	}
}

// P4.1: what is wrong with the variables, whether they are used or not, comes before what is wrong with an expression.
func TestWrongVariables(t *testing.T) {
	one := number(1, 0)
	expectUnit(t, make([]api.Var, 12), one, unit(0, 0, 0))
	for _, kind := range []int{-1, 5, math.MinInt, math.MaxInt} {
		for at := range 12 {
			vars := make([]api.Var, 12)
			vars[at].Unit = kind
			for _, e := range []api.Expr{one, variable(0), variable(12), sum(61), node(api.ExAdd, one, number(1, api.UnitTime))} {
				expectError(t, vars, e, api.ErrArg)
			}
			expectVarsError(t, vars)
		}
	}
	for _, count := range []int{13, 14, 1000} {
		for _, e := range []api.Expr{one, variable(0), variable(12), sum(61)} {
			expectError(t, make([]api.Var, count), e, api.ErrArg)
		}
		expectVarsError(t, make([]api.Var, count))
	}
}

// expectVarsError checks that Check reports variables first, as the event 0.
func expectVarsError(t *testing.T, vars []api.Var) {
	t.Helper()
	long := api.Program{Vars: vars}
	long.On[api.OnLoss] = []api.Stmt{assign(0, sum(61))}
	for _, p := range []api.Program{{Vars: vars}, long} {
		if event, err := units.Check(p); event != 0 || err != api.ErrArg {
			t.Errorf("%d, %v", event, err)
		}
	}
}

// P4.1: at most 60 nodes; this comes before the error of the expression.
func TestLongExpressions(t *testing.T) {
	one := number(1, 0)
	expectUnit(t, nil, sum(59), unit(0, 0, 0))
	expectError(t, nil, sum(61), api.ErrLimit)
	expectError(t, nil, node(api.ExAdd, one, sum(59)), api.ErrLimit)
	expectError(t, nil, node(api.ExAdd, sum(31), sum(29)), api.ErrLimit)
	expectUnit(t, nil, node(api.ExAdd, sum(29), sum(29)), unit(0, 0, 0))
	// With one kid, or many, all nodes count, though the expression is wrong.
	for op := -1; op <= 12; op++ {
		expectError(t, nil, node(op, sum(59)), api.ErrArg)
		expectError(t, nil, node(op, node(op, sum(59))), api.ErrLimit)
		expectError(t, nil, node(op, slices.Repeat([]api.Expr{one}, 59)...), api.ErrArg)
		expectError(t, nil, node(op, slices.Repeat([]api.Expr{one}, 60)...), api.ErrLimit)
		expectError(t, nil, node(op, slices.Repeat([]api.Expr{variable(3)}, 60)...), api.ErrLimit)
	}
	chain := one
	for range 59 {
		chain = node(api.ExVar, chain)
	}
	expectError(t, nil, chain, api.ErrArg)
	expectError(t, nil, node(api.ExVar, chain), api.ErrLimit)
}

// P4.1: assignments.
func TestAssignments(t *testing.T) {
	expectHandler(t, api.OK)
	for v := range kindVars() {
		for a := range kindVars() {
			want := api.ErrUnit
			if a == v {
				want = api.OK
			}
			expectHandler(t, want, assign(v, variable(a)))
			expectHandler(t, want, assign(v, number(7, a)))
			expectHandler(t, want, assign(a, variable(a)), assign(v, node(api.ExMax, number(7, a), variable(a))))
		}
	}
	expectHandler(t, api.ErrUnit, assign(api.UnitPackets, node(api.ExMul, variable(api.UnitPackets), variable(api.UnitPackets))))
	expectHandler(t, api.OK, assign(api.UnitRate, node(api.ExUp, input(api.InSize), input(api.InRtt))))
	// The variable comes first, then the expression.
	misfit := node(api.ExAdd, number(1, 0), number(1, 1))
	for _, v := range []int{-1, 5, 12, math.MinInt, math.MaxInt} {
		expectHandler(t, api.ErrArg, assign(v, number(1, 0)))
		expectHandler(t, api.ErrArg, assign(v, misfit))
	}
	expectHandler(t, api.ErrUnit, assign(0, misfit))
	expectHandler(t, api.ErrArg, assign(0, number(-1, api.UnitTime)))
	expectHandler(t, api.ErrArg, assign(0, api.Expr{}))
}

// P4.1: conditions, with what is in them.
func TestConditions(t *testing.T) {
	arg, misfit, one, packet := variable(9), node(api.ExAdd, number(1, 0), number(1, 1)), number(1, 0), number(1, 1)
	for relation := -1; relation <= 8; relation++ {
		right := api.RelLess <= relation && relation <= api.RelOther
		for _, x := range []struct {
			a, b api.Expr
			want api.Errno
		}{{one, one, api.OK}, {packet, input(api.InTotal), api.OK}, {one, packet, api.ErrUnit}, {packet, one, api.ErrUnit}, {misfit, arg, api.ErrUnit}, {arg, misfit, api.ErrArg}, {one, arg, api.ErrArg}, {packet, misfit, api.ErrUnit}, {arg, one, api.ErrArg}} {
			s := when(x.a, x.b)
			s.Rel = relation
			if !right {
				x.want = api.ErrArg
			}
			expectHandler(t, x.want, s)
			expectHandler(t, x.want, when(one, one, s))
		}
	}
	wrong, unfit := assign(-1, one), assign(0, packet)
	expectHandler(t, api.ErrUnit, when(one, packet, wrong))
	expectHandler(t, api.ErrArg, when(one, arg, unfit))
	for want, list := range map[api.Errno][2]api.Stmt{api.ErrArg: {wrong, unfit}, api.ErrUnit: {unfit, wrong}} {
		first, second := list[0], list[1]
		expectHandler(t, want, first, second)
		both := when(one, one, first)
		both.Else = []api.Stmt{second}
		expectHandler(t, want, both)
		expectHandler(t, want, when(one, one, assign(0, one), first), second)
		last := when(one, one, assign(0, one))
		last.Else = []api.Stmt{assign(0, one), first}
		expectHandler(t, want, last)
		expectHandler(t, want, last, second)
		expectHandler(t, want, when(one, one, last, second))
		expectHandler(t, want, first, last)
	}
}

// P4.1: statements of no kind.
func TestWrongStatements(t *testing.T) {
	for _, kind := range []int{-1, 0, 3, math.MinInt, math.MaxInt} {
		s := when(number(1, 0), number(1, 0))
		s.Kind = kind
		expectHandler(t, api.ErrArg, s)
		expectHandler(t, api.ErrArg, assign(0, number(1, 0)), s)
		expectHandler(t, api.ErrArg, when(number(1, 0), number(1, 0), s))
	}
	expectHandler(t, api.ErrArg, api.Stmt{})
}

// P4.1: at most 100 statements, with those in others; this comes before other errors of the handler.
func TestLongHandlers(t *testing.T) {
	one := number(1, 0)
	right, wrong := assign(0, one), assign(9, one)
	inside := func(then, other int) api.Stmt {
		s := when(one, one, slices.Repeat([]api.Stmt{right}, then)...)
		s.Else = slices.Repeat([]api.Stmt{right}, other)
		return s
	}
	deep := right
	for n := 1; n <= 102; n++ {
		want := api.OK
		if n > 100 {
			want = api.ErrLimit
		}
		expectHandler(t, want, slices.Repeat([]api.Stmt{right}, n)...)
		expectHandler(t, want, deep)
		deep = when(one, one, deep)
		for then := range n {
			expectHandler(t, want, inside(then, n-1-then))
		}
		if n > 1 {
			expectHandler(t, cmp.Or(want, api.ErrArg), append([]api.Stmt{wrong}, slices.Repeat([]api.Stmt{right}, n-1)...)...)
		}
	}
	expectHandler(t, api.OK, inside(30, 19), inside(0, 49))
	expectHandler(t, api.ErrLimit, inside(30, 19), inside(1, 49))
	expectHandler(t, api.ErrLimit, wrong, inside(30, 19), inside(0, 49))
	expectHandler(t, api.ErrLimit, append(slices.Repeat([]api.Stmt{right}, 100), api.Stmt{})...)
	expectHandler(t, api.ErrArg, append(slices.Repeat([]api.Stmt{right}, 99), api.Stmt{})...)
	// Only what is in conditions counts.
	for _, kind := range []int{api.StAssign, 0, 3} {
		s := inside(200, 200)
		s.Kind = kind
		want := api.OK
		if kind != api.StAssign {
			want = api.ErrArg
		}
		expectHandler(t, want, s)
	}
}

// P4.1: a long expression anywhere in a handler is reported before other errors of it.
func TestLongInHandlers(t *testing.T) {
	one := number(1, 0)
	wrong := assign(9, one)
	for nodes, want := range map[int]api.Errno{59: api.OK, 61: api.ErrLimit} {
		other := when(one, one)
		other.Else = []api.Stmt{assign(0, sum(nodes))}
		for _, s := range []api.Stmt{assign(0, sum(nodes)), when(sum(nodes), one), when(one, sum(nodes)), when(one, one, assign(0, sum(nodes))), other, when(one, one, other)} {
			expectHandler(t, want, s)
			expectHandler(t, want, assign(0, one), s)
			expectHandler(t, cmp.Or(want, api.ErrArg), wrong, s)
			expectHandler(t, cmp.Or(want, api.ErrArg), s, wrong)
		}
	}
	// A of any statement counts, B only of conditions.
	for kind := -1; kind <= 4; kind++ {
		expectHandler(t, api.ErrLimit, api.Stmt{Kind: kind, A: sum(61)})
	}
	expectHandler(t, api.OK, api.Stmt{Kind: api.StAssign, A: one, B: sum(61)})
	expectHandler(t, api.ErrArg, api.Stmt{Kind: 3, A: one, B: sum(61)})
}

// P1: expressions and statements that contain themselves.
func TestEndless(t *testing.T) {
	one := number(1, 0)
	for kids := 1; kids < 4; kids++ {
		for op := -1; op <= 12; op++ {
			e := api.Expr{Op: op, Kids: make([]api.Expr, kids)}
			for i := range e.Kids {
				e.Kids[i] = e
			}
			expectError(t, kindVars(), e, api.ErrLimit)
			expectHandler(t, api.ErrLimit, assign(0, e))
			expectHandler(t, api.ErrLimit, when(one, e))
			expectHandler(t, api.OK, api.Stmt{Kind: api.StAssign, A: one, B: e})
		}
	}
	for kind := -1; kind <= 4; kind++ {
		s := when(one, one)
		s.Kind = kind
		s.Then, s.Else = make([]api.Stmt, 2), make([]api.Stmt, 2)
		for i := range s.Then {
			s.Then[i], s.Else[i] = s, s
		}
		want := map[int]api.Errno{api.StAssign: api.OK, api.StIf: api.ErrLimit}
		if _, ok := want[kind]; !ok {
			want[kind] = api.ErrArg
		}
		expectHandler(t, want[kind], s)
		expectHandler(t, want[kind], api.Stmt{Kind: kind, Rel: 1, A: one, B: one, Then: s.Then})
		expectHandler(t, want[kind], api.Stmt{Kind: kind, Rel: 1, A: one, B: one, Else: s.Else})
	}
}
