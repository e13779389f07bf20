package ranges_test

import (
	"math"
	"slices"
	"testing"

	"queuelab/api"
	"queuelab/ranges"
)

// P7.1: G2, programs that are not valid.
func TestWrongPrograms(t *testing.T) {
	flaw := assign(0, packets(0))
	for name, change := range map[string]func(p *api.Program){
		"no name":            func(p *api.Program) { p.Name = "" },
		"no variables":       func(p *api.Program) { p.Vars = nil },
		"13 variables":       func(p *api.Program) { p.Vars = manyVars(13) },
		"a name twice":       func(p *api.Program) { p.Vars[1].Name = "w" },
		"a unit":             func(p *api.Program) { p.Vars[3].Unit = 5 },
		"Low below 0":        func(p *api.Program) { p.Vars[3].Low = -1 },
		"Init below Low":     func(p *api.Program) { p.Vars[3].Init = 4 },
		"Init above High":    func(p *api.Program) { p.Vars[3].High = 5; p.Vars[3].Init = 6 },
		"a great High":       func(p *api.Program) { p.Vars[3].High = 1000000001 },
		"no window":          func(p *api.Program) { p.Window = -1 },
		"another window":     func(p *api.Program) { p.Window = 2 },
		"a window behind":    func(p *api.Program) { p.Window = 4 },
		"a pace":             func(p *api.Program) { p.Pace = 0 },
		"a unit that is off": func(p *api.Program) { p.On[4] = list(assign(0, plain(2))) },
		"a statement":        func(p *api.Program) { p.On[4] = list(api.Stmt{}) },
		"no variable":        func(p *api.Program) { p.On[4] = list(assign(4, packets(2))) },
		"no relation":        func(p *api.Program) { p.On[4] = list(when(plain(1), 7, plain(1), nil, nil)) },
		"many statements":    func(p *api.Program) { p.On[4] = slices.Repeat(list(assign(0, packets(2))), 101) },
		"many nodes":         func(p *api.Program) { p.On[4] = list(assign(2, node(api.ExMin, sum(59), plain(0)))) },
		"what is not reached": func(p *api.Program) {
			p.On[4] = list(when(plain(1), api.RelLess, plain(1), list(assign(0, plain(2))), nil))
		},
	} {
		p := programOf(0, flaw)
		change(&p)
		if got, err := ranges.Flaws(p); len(got) > 0 || err != api.ErrArg {
			t.Errorf("%s: %v, %v", name, got, err)
		}
	}
	if got, err := ranges.Flaws(api.Program{}); len(got) > 0 || err != api.ErrArg {
		t.Errorf("%v, %v", got, err)
	}
	// Statements that contain themselves.
	loop := list(when(plain(1), api.RelLess, plain(1), nil, nil))
	loop[0].Then, loop[0].Else = loop, loop
	if got, err := ranges.Flaws(programOf(2, loop...)); len(got) > 0 || err != api.ErrArg {
		t.Errorf("%v, %v", got, err)
	}
}

// manyVars returns some variables in packets from 0 to their index.
func manyVars(count int) []api.Var {
	var vars []api.Var
	for i := range count {
		vars = append(vars, api.Var{Name: "v" + string(rune('a'+i)), Unit: api.UnitPackets, High: i})
	}
	return vars
}

// P7.1: G2, the flaws of all events, in their order.
func TestEvents(t *testing.T) {
	flawed := map[api.Errno]api.Stmt{
		api.ErrOver:  assign(0, packets(101)),
		api.ErrZero:  assign(0, node(api.ExDiv, packets(1), variable(2))),
		api.ErrRange: assign(0, node(api.ExMul, node(api.ExMul, variable(3), variable(3)), packets(1))),
	}
	// Each of these numbers says which handlers have a flaw.
	for chosen := range 1 << api.Events {
		for err, s := range flawed {
			p := programOf(0)
			var want []api.Flaw
			for event := range api.Events {
				p.On[event] = list(assign(0, packets(1)))
				if chosen>>event&1 == 1 {
					p.On[event] = append(p.On[event], s)
					want = append(want, api.Flaw{Event: event, Err: err})
				}
			}
			expectFlaws(t, p, want...)
		}
	}
	p := programOf(0, flawed[api.ErrRange])
	p.On[2], p.On[4] = list(flawed[api.ErrZero]), list(flawed[api.ErrOver])
	expectFlaws(t, p, api.Flaw{Event: 0, Err: api.ErrRange}, api.Flaw{Event: 2, Err: api.ErrZero}, api.Flaw{Event: 4, Err: api.ErrOver})
}

// P7.1: an assignment fails if its interval is not within the range of the variable, on either side.
func TestAssignments(t *testing.T) {
	w := variable(0)
	expectFlaw(t, api.OK)
	expectFlaw(t, api.OK, assign(0, w))
	expectFlaw(t, api.OK, assign(0, packets(1)))
	expectFlaw(t, api.OK, assign(0, packets(100)))
	expectFlaw(t, api.ErrOver, assign(0, packets(0)))
	expectFlaw(t, api.ErrOver, assign(0, packets(101)))
	expectFlaw(t, api.ErrOver, assign(0, node(api.ExAdd, w, packets(1))))
	expectFlaw(t, api.ErrOver, assign(0, node(api.ExSub, w, packets(1))))
	expectFlaw(t, api.ErrOver, assign(0, node(api.ExSub, packets(1), packets(2))))
	expectFlaw(t, api.OK, assign(0, node(api.ExSub, packets(101), w)))
	expectFlaw(t, api.ErrOver, assign(0, node(api.ExSub, packets(100), w)))
	expectFlaw(t, api.OK, assign(0, node(api.ExMin, node(api.ExAdd, w, packets(1)), packets(100))))
	expectFlaw(t, api.ErrOver, assign(0, node(api.ExMin, node(api.ExAdd, w, packets(1)), packets(101))))
	// The range counts, and neither what the variable was before nor its first value.
	expectFlaw(t, api.OK, assign(0, packets(5)), assign(0, packets(9)))
	expectFlaw(t, api.OK, assign(0, packets(5)), assign(0, node(api.ExAdd, w, packets(95))))
	expectFlaw(t, api.ErrOver, assign(0, packets(5)), assign(0, node(api.ExAdd, w, packets(96))))
	expectFlaw(t, api.ErrOver, assign(0, packets(5)), assign(1, w), assign(1, node(api.ExMul, w, plain(3))))
	// The interval of one variable does not become that of another one.
	expectFlaw(t, api.OK, assign(1, packets(5)), assign(0, w), assign(1, packets(9)), assign(1, variable(1)))
	expectFlaw(t, api.ErrOver, assign(1, packets(5)), assign(1, w))
}

// P7.1: the flaw is the first one in the order in which the handler is examined.
func TestFirstFlaw(t *testing.T) {
	over := assign(0, packets(101))
	zeroExpr := node(api.ExDiv, packets(1), variable(2))
	zero := assign(0, zeroExpr)
	great := node(api.ExMul, node(api.ExMul, variable(3), variable(3)), packets(1))
	right := packets(1)
	for _, x := range []struct {
		err   api.Errno
		stmts []api.Stmt
	}{
		{api.ErrOver, list(over, zero)}, {api.ErrZero, list(zero, over)},
		{api.ErrZero, list(assign(0, node(api.ExAdd, zeroExpr, packets(500))))},
		{api.ErrZero, list(when(zeroExpr, api.RelLess, great, list(over), list(over)))},
		{api.ErrRange, list(when(great, api.RelLess, zeroExpr, list(over), list(over)))},
		{api.ErrRange, list(when(right, api.RelLess, great, list(over), list(over)))},
		{api.ErrZero, list(when(zeroExpr, api.RelLess, right, list(over), list(over)))},
		{api.ErrZero, list(when(variable(0), api.RelLess, packets(9), list(zero), list(over)))},
		{api.ErrOver, list(when(variable(0), api.RelLess, packets(9), list(over), list(zero)))},
		{api.ErrOver, list(when(variable(0), api.RelLess, packets(9), nil, list(over)), zero)},
		{api.ErrZero, list(when(variable(0), api.RelLess, packets(9), list(when(variable(0), api.RelLess, packets(5), nil, list(zero))), list(over)))},
		{api.ErrOver, list(when(variable(0), api.RelLess, packets(1), list(zero), list(over)))},
		{api.ErrZero, list(zero, when(great, api.RelLess, right, nil, nil))},
	} {
		expectFlaw(t, x.err, x.stmts...)
		expectFlaw(t, x.err, append(list(assign(1, packets(3))), x.stmts...)...)
		expectFlaw(t, x.err, append(x.stmts, over)...)
		expectFlaw(t, x.err, append(x.stmts, zero)...)
	}
}

// unitVars returns a program's variables with a range for one that has the unit of a kind; the window is the other one, w from 1 to 100.
func unitVars(unit, low, high int) []api.Var {
	return []api.Var{{Name: "w", Unit: api.UnitPackets, Low: 1, High: 100, Init: 1}, {Name: "v", Unit: unit, Low: low, High: high, Init: low}}
}

// P7.1: the ranges of the inputs, exactly.
func TestInputs(t *testing.T) {
	for i, x := range []struct{ unit, low, high int }{{api.UnitPackets, 1, 1000}, {api.UnitTime, 1, 10000000}, {api.UnitBytes, 1, 10000}, {api.UnitPackets, 0, 4000}} {
		p := api.Program{Name: "p", Vars: unitVars(x.unit, x.low, x.high), Pace: -1}
		for event := range api.Events {
			p.On = [api.Events][]api.Stmt{}
			p.On[event] = list(assign(1, input(i)))
			expectFlaws(t, p)
			p.Vars = unitVars(x.unit, x.low, x.high-1)
			expectFlaws(t, p, api.Flaw{Event: event, Err: api.ErrOver})
			p.Vars = unitVars(x.unit, x.low+1, x.high)
			expectFlaws(t, p, api.Flaw{Event: event, Err: api.ErrOver})
			p.Vars = unitVars(x.unit, x.low, x.high)
		}
	}
}

// P7.1: inputs are not refined, not even where an index of a variable is that of an input, and neither are variables in an expression.
func TestOnlyVariables(t *testing.T) {
	w, v, acked := variable(0), variable(1), input(api.InAcked)
	takeAcked := list(assign(1, acked))
	more := list(assign(0, node(api.ExAdd, w, packets(1))))
	expectFlaw(t, api.ErrOver, when(acked, api.RelAtMost, packets(10), takeAcked, nil))
	expectFlaw(t, api.ErrOver, when(packets(10), api.RelAtLeast, acked, takeAcked, nil))
	expectFlaw(t, api.ErrOver, when(acked, api.RelAtMost, packets(10), more, nil))
	expectFlaw(t, api.ErrOver, when(packets(10), api.RelAtLeast, acked, more, nil))
	expectFlaw(t, api.OK, when(w, api.RelAtMost, packets(10), more, nil))
	expectFlaw(t, api.OK, when(packets(10), api.RelAtLeast, w, more, nil))
	expectFlaw(t, api.ErrOver, when(node(api.ExAdd, w, packets(0)), api.RelAtMost, packets(10), more, nil))
	expectFlaw(t, api.ErrOver, when(packets(10), api.RelAtLeast, node(api.ExAdd, packets(0), w), more, nil))
	// Numbers are no variables: 0 and 1 are indices of some.
	expectFlaw(t, api.ErrOver, when(packets(0), api.RelLess, packets(50), more, nil))
	expectFlaw(t, api.ErrOver, when(packets(50), api.RelMore, packets(0), more, nil))
	// The other variables are not refined with it.
	expectFlaw(t, api.ErrOver, when(v, api.RelAtMost, packets(5), more, nil))
	expectFlaw(t, api.OK, when(v, api.RelAtMost, packets(5), list(assign(1, node(api.ExAdd, v, packets(5)))), nil))
	expectFlaw(t, api.ErrOver, when(v, api.RelAtMost, packets(5), list(assign(1, node(api.ExAdd, v, packets(6)))), nil))
}

// P7.1: the intervals of one list are not those of the other one, and what was before the if is not changed by it.
func TestBranches(t *testing.T) {
	w, v := variable(0), variable(1)
	set := func(n int) []api.Stmt { return list(assign(1, packets(n))) }
	double := assign(1, node(api.ExMul, v, plain(2)))
	small := when(w, api.RelLess, packets(50), set(3), set(5))
	expectFlaw(t, api.OK, small, double)
	expectFlaw(t, api.ErrOver, when(w, api.RelLess, packets(50), set(6), set(5)), double)
	expectFlaw(t, api.ErrOver, when(w, api.RelLess, packets(50), set(5), set(6)), double)
	expectFlaw(t, api.ErrOver, when(w, api.RelLess, packets(50), set(5), nil), double)
	expectFlaw(t, api.ErrOver, when(w, api.RelLess, packets(50), nil, set(5)), double)
	expectFlaw(t, api.OK, set(5)[0], when(w, api.RelLess, packets(50), nil, nil), double)
	expectFlaw(t, api.OK, set(5)[0], when(w, api.RelLess, packets(50), set(9), list(double)))
	expectFlaw(t, api.OK, set(5)[0], when(w, api.RelLess, packets(50), list(double), set(9)))
	// Only one of them can be reached: the other one adds nothing.
	expectFlaw(t, api.OK, when(w, api.RelLess, packets(101), set(5), set(6)), double)
	expectFlaw(t, api.OK, when(w, api.RelLess, packets(1), set(6), set(5)), double)
	expectFlaw(t, api.ErrOver, when(w, api.RelLess, packets(101), set(6), set(5)), double)
	expectFlaw(t, api.ErrOver, when(w, api.RelLess, packets(1), set(5), set(6)), double)
	// What was refined is joined again, though it could not be so.
	keep := when(w, api.RelLess, packets(50), nil, nil)
	expectFlaw(t, api.OK, keep, assign(0, w))
	expectFlaw(t, api.ErrOver, keep, assign(0, node(api.ExAdd, w, packets(1))))
	// Numbers between the two intervals belong to their union.
	gap := when(w, api.RelLess, packets(50), list(assign(0, packets(1))), list(assign(0, packets(9))))
	expectFlaw(t, api.ErrZero, gap, assign(1, node(api.ExMin, packets(1), node(api.ExMax, packets(0), node(api.ExDiv, packets(1), node(api.ExSub, node(api.ExDiv, w, packets(1)), plain(5)))))))
}

// P7.1: fields of statements without a meaning do not matter.
func TestOtherFieldsOfStatements(t *testing.T) {
	over := assign(0, packets(101))
	for _, n := range []int{-1, 0, 1, 7, math.MaxInt} {
		s := assign(0, packets(5))
		s.Rel, s.B, s.Then, s.Else = n, node(n), list(over), list(over)
		expectFlaw(t, api.OK, s)
		s.A = packets(101)
		expectFlaw(t, api.ErrOver, s)
		s = when(variable(0), api.RelLess, packets(1), list(over), nil)
		s.Var = n
		expectFlaw(t, api.OK, s)
	}
}

// P7.1: the longest handlers, and the deepest ones.
func TestLongHandlers(t *testing.T) {
	w := variable(0)
	same := assign(0, node(api.ExMin, node(api.ExAdd, w, packets(1)), packets(100)))
	expectFlaw(t, api.OK, slices.Repeat(list(same), 100)...)
	expectFlaw(t, api.ErrOver, append(slices.Repeat(list(same), 99), assign(0, packets(0)))...)
	more := node(api.ExAdd, w, packets(1))
	for levels := 1; levels < 100; levels++ {
		// In each level w is at least one more.
		deep := list(assign(0, node(api.ExSub, w, packets(levels))))
		wrong := list(assign(0, node(api.ExSub, w, packets(levels+1))))
		for i := levels; i > 0; i-- {
			deep = list(when(packets(i), api.RelLess, w, deep, nil))
			wrong = list(when(packets(i), api.RelLess, w, wrong, nil))
		}
		expectFlaws(t, programOf(1, deep...))
		if levels < 99 {
			expectFlaws(t, programOf(1, wrong...), api.Flaw{Event: 1, Err: api.ErrOver})
		}
	}
	long := w
	for range 28 {
		long = node(api.ExAdd, long, packets(0))
	}
	expectFlaw(t, api.OK, assign(0, long), when(long, api.RelAtMost, long, nil, nil), when(packets(100), api.RelMore, w, list(assign(0, more)), nil))
}

// P7.1: a program with twelve variables, each with its own range.
func TestManyVariables(t *testing.T) {
	for i := range 12 {
		for high := range 12 {
			p := api.Program{Name: "p", Vars: manyVars(12), Pace: -1}
			p.On[3] = list(assign(i, variable(high)))
			if high <= i {
				expectFlaws(t, p)
			} else {
				expectFlaws(t, p, api.Flaw{Event: 3, Err: api.ErrOver})
			}
		}
	}
}
