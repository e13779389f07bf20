package ranges_test

import (
	"math/big"
	"reflect"
	"slices"
	"testing"

	"queuelab/api"
	"queuelab/control"
	"queuelab/ranges"
)

// valueIn computes an expression with numbers for the variables and the inputs.
func valueIn(state []int, in [api.Inputs]int, e api.Expr) (int, api.Errno) {
	kids := make([]int, len(e.Kids))
	for i, kid := range e.Kids {
		n, err := valueIn(state, in, kid)
		if err != api.OK {
			return 0, err
		}
		kids[i] = n
	}
	switch {
	case !wantedForm(len(state), e):
		return 0, api.ErrArg
	case e.Op == api.ExNumber:
		return e.N, api.OK
	case e.Op == api.ExVar:
		return state[e.N], api.OK
	case e.Op == api.ExInput:
		return in[e.N], api.OK
	}
	n := valueOf(e.Op, big.NewInt(int64(kids[0])), big.NewInt(int64(kids[1])))
	if n == nil {
		return 0, api.ErrZero
	}
	if !isValue(n) {
		return 0, api.ErrRange
	}
	return int(n.Int64()), api.OK
}

// run runs statements from a state, which it changes, and returns the error at which it ends; steps counts how often an assignment or an if was run.
func run(p api.Program, state []int, in [api.Inputs]int, stmts []api.Stmt, steps map[int]int) api.Errno {
	for _, s := range stmts {
		steps[s.Kind]++
		a, err := valueIn(state, in, s.A)
		if err != api.OK {
			return err
		}
		if s.Kind == api.StAssign {
			if a < p.Vars[s.Var].Low || a > p.Vars[s.Var].High {
				return api.ErrOver
			}
			state[s.Var] = a
			continue
		}
		b, err := valueIn(state, in, s.B)
		if err != api.OK {
			return err
		}
		chosen := s.Else
		if related(a, s.Rel, b) {
			chosen = s.Then
		}
		if err := run(p, state, in, chosen, steps); err != api.OK {
			return err
		}
	}
	return api.OK
}

// state returns one of a program.
func (m maker) state(p api.Program) []int {
	var state []int
	for _, v := range p.Vars {
		state = append(state, m.inside(span(v.Low, v.High)))
	}
	return state
}

// call returns inputs.
func (m maker) call() [api.Inputs]int {
	return [api.Inputs]int{m.inside(span(1, 1000)), m.inside(span(1, 10000000)), m.inside(span(1, 10000)), m.inside(span(0, 4000))}
}

// flawOf returns the flaw of a handler of a valid program.
func flawOf(t *testing.T, p api.Program, event int) api.Errno {
	t.Helper()
	flaws, err := ranges.Flaws(p)
	if err != api.OK {
		t.Fatalf("%s: %v", brief(p), err)
	}
	for _, f := range flaws {
		if f.Event == event {
			return f.Err
		}
	}
	return api.OK
}

// P7.2: handlers without a flaw never fail. Those with one fail often, so that the states are not just those in which nothing happens.
func TestSound(t *testing.T) {
	steps, failures := map[int]int{}, map[api.Errno]int{}
	for m := range makers(72, 8000) {
		p := m.program()
		for event, stmts := range p.On {
			flaw := flawOf(t, p, event)
			for range 12 {
				state, in := m.state(p), m.call()
				before, count := slices.Clone(state), map[int]int{}
				err := run(p, state, in, stmts, count)
				if flaw != api.OK {
					failures[err]++
					continue
				}
				if err != api.OK {
					t.Fatalf("%s: %v, %v: %v", brief(stmts), before, in, err)
				}
				steps[api.StAssign] += count[api.StAssign]
				steps[api.StIf] += count[api.StIf]
			}
		}
	}
	if steps[api.StAssign] < 50000 || steps[api.StIf] < 50000 {
		t.Errorf("%v", steps)
	}
	if failures[api.ErrOver] < 50000 || failures[api.ErrZero] < 1000 || failures[api.ErrRange] < 500 {
		t.Errorf("%v", failures)
	}
}

// P7.2: all states of programs with few of them, in handlers in which nearly every statement is in an if.
func TestSoundInAllStates(t *testing.T) {
	count := map[bool]int{}
	for m := range makers(73, 20000) {
		p := smallProgram(m.narrower(span(0, 4)), m.narrower(span(0, 4)))
		w, v := pick(m, 0, 1), pick(m, 0, 1)
		step := list(assign(w, node(pick(m, api.ExAdd, api.ExSub), variable(w), packets(m.Intn(3)))))
		sides := []api.Expr{variable(v), pick(m, packets(m.Intn(5)), variable(w), variable(v), node(api.ExAdd, variable(w), packets(1)))}
		m.Shuffle(2, func(i, k int) { sides[i], sides[k] = sides[k], sides[i] })
		inner := when(sides[0], 1+m.Intn(6), sides[1], step, nil)
		outer := when(variable(pick(m, 0, 1)), 1+m.Intn(6), variable(pick(m, 0, 1)), list(inner), pick(m, nil, step))
		if m.Intn(2) == 0 {
			outer.Then, outer.Else = outer.Else, outer.Then
		}
		p.On[0] = append(list(outer), pick(m, nil, step, list(inner))...)
		sound := flawOf(t, p, 0) == api.OK
		count[sound]++
		if !sound {
			continue
		}
		for x := p.Vars[0].Low; x <= p.Vars[0].High; x++ {
			for y := p.Vars[1].Low; y <= p.Vars[1].High; y++ {
				if err := run(p, []int{x, y, 0}, [api.Inputs]int{}, p.On[0], map[int]int{}); err != api.OK {
					t.Fatalf("%v, %s: %d, %d: %v", p.Vars, brief(p.On[0]), x, y, err)
				}
			}
		}
	}
	if count[true] < 3000 || count[false] < 3000 {
		t.Errorf("%v", count)
	}
}

// numbers returns one of each interval.
func (m maker) numbers(spans []api.Span) []int {
	var numbers []int
	for _, s := range spans {
		numbers = append(numbers, m.inside(s))
	}
	return numbers
}

// P7.3.
func TestContained(t *testing.T) {
	count := 0
	for m := range makers(74, 40000) {
		vars, in := m.spans(m.Intn(5)), m.inputs()
		e := m.anyExpr(len(vars), 1+m.Intn(4))
		s, err := ranges.Eval(vars, in, e)
		if err != api.OK {
			continue
		}
		if s.Low > s.High || s.Low < -most || s.High > most {
			t.Fatalf("%v, %v, %s: %v", vars, in, brief(e), s)
		}
		for range 10 {
			state, call := m.numbers(vars), [api.Inputs]int(m.numbers(in[:]))
			if n, err := valueIn(state, call, e); err != api.OK || !contains(s, n) {
				t.Fatalf("%v, %v, %s: %v, without %d, %v", state, call, brief(e), s, n, err)
			}
		}
		count++
	}
	if count < 10000 {
		t.Errorf("only %d expressions", count)
	}
}

// single returns intervals that contain one number each.
func single(numbers []int) []api.Span {
	var spans []api.Span
	for _, n := range numbers {
		spans = append(spans, span(n, n))
	}
	return spans
}

// P7.4.
func TestExact(t *testing.T) {
	count := map[api.Errno]int{}
	for m := range makers(75, 40000) {
		state, in := m.numbers(m.spans(m.Intn(5))), [api.Inputs]int{}
		for i := range in {
			in[i] = m.value()
		}
		e := m.anyExpr(len(state), m.Intn(6))
		for size(e) > 60 {
			e = m.anyExpr(len(state), 4)
		}
		if m.Intn(4) == 0 && size(e) < 60 {
			e = m.changedExpr(e)
		}
		want, wantErr := valueIn(state, in, e)
		s, err := ranges.Eval(single(state), [api.Inputs]api.Span(single(in[:])), e)
		if err != wantErr || s != span(want, want) {
			t.Fatalf("%v, %v, %s: %v, %v; want %d, %v", state, in, brief(e), s, err, want, wantErr)
		}
		count[err]++
	}
	for _, err := range []api.Errno{api.OK, api.ErrArg, api.ErrRange, api.ErrZero} {
		if count[err] < 1000 {
			t.Errorf("%v", count)
		}
	}
}

// P7.5.
func TestNarrower(t *testing.T) {
	count := map[[2]bool]int{}
	for m := range makers(76, 40000) {
		vars, in := m.spans(1+m.Intn(4)), m.inputs()
		narrow, narrowIn := slices.Clone(vars), in
		for i, s := range narrow {
			narrow[i] = pick(m, s, m.narrower(s))
		}
		for i, s := range narrowIn {
			narrowIn[i] = pick(m, s, m.narrower(s))
		}
		e := m.anyExpr(len(vars), m.Intn(6))
		if m.Intn(10) == 0 {
			e = m.changedExpr(e)
		}
		wide, wideErr := ranges.Eval(vars, in, e)
		s, err := ranges.Eval(narrow, narrowIn, e)
		if wideErr == api.OK && (err != api.OK || s.Low < wide.Low || s.High > wide.High) {
			t.Fatalf("%v, %v, %s: %v; with %v, %v: %v, %v", vars, in, brief(e), wide, narrow, narrowIn, s, err)
		}
		count[[2]bool{wideErr == api.OK, err == api.OK}]++
	}
	if count[[2]bool{true, true}] < 5000 || count[[2]bool{false, true}] < 500 || count[[2]bool{false, false}] < 5000 {
		t.Errorf("%v", count)
	}
}

// P7.6.
func TestOtherHandlers(t *testing.T) {
	count := map[api.Errno]int{}
	for m := range makers(77, 3000) {
		p, other := m.program(), m.program()
		for event := range api.Events {
			want := flawOf(t, p, event)
			alone, mixed := p, other
			alone.On = [api.Events][]api.Stmt{}
			alone.On[event], mixed.On[event] = p.On[event], p.On[event]
			moved := (event + 1 + m.Intn(4)) % api.Events
			mixed.On[moved] = p.On[event]
			for _, x := range []struct {
				p     api.Program
				event int
			}{{alone, event}, {mixed, event}, {mixed, moved}} {
				if got := flawOf(t, x.p, x.event); got != want {
					t.Fatalf("%s: %v; want %v", brief(p.On[event]), got, want)
				}
			}
			count[want]++
		}
	}
	if count[api.OK] < 1000 || count[api.ErrOver] < 1000 || count[api.ErrZero] < 100 {
		t.Errorf("%v", count)
	}
}

// never returns an if of which Then can never be reached, and that changes nothing if Else does not.
func (m maker) never(then, other []api.Stmt) api.Stmt {
	i := m.Intn(len(m.vars))
	v, x := m.vars[i], variable(i)
	n := func(n int) api.Expr { return number(n, v.Unit) }
	below, above := max(v.Low-1, 0), min(v.High+1, 1000000000)
	same := func(rel int) api.Stmt { return when(plain(3), rel, plain(3), then, other) }
	choices := []api.Stmt{
		same(api.RelLess), same(api.RelMore), same(api.RelOther),
		when(plain(3), api.RelEqual, plain(4), then, other), when(plain(3), api.RelAtLeast, plain(4), then, other), when(plain(4), api.RelAtMost, plain(3), then, other),
		when(x, api.RelLess, n(v.Low), then, other), when(x, api.RelMore, n(v.High), then, other), when(n(v.Low), api.RelMore, x, then, other), when(n(v.High), api.RelLess, x, then, other),
		when(input(api.InAcked), api.RelLess, packets(1), then, other), when(input(api.InTotal), api.RelMore, packets(4000), then, other), when(input(api.InSize), api.RelEqual, number(0, api.UnitBytes), then, other),
		when(packets(1001), api.RelAtMost, input(api.InAcked), then, other), when(number(10000001, api.UnitTime), api.RelEqual, input(api.InRtt), then, other),
	}
	if below < v.Low {
		choices = append(choices, when(x, api.RelAtMost, n(below), then, other), when(x, api.RelEqual, n(below), then, other), when(n(below), api.RelAtLeast, x, then, other))
	}
	if above > v.High {
		choices = append(choices, when(x, api.RelAtLeast, n(above), then, other), when(x, api.RelEqual, n(above), then, other), when(n(above), api.RelAtMost, x, then, other))
	}
	s := pick(m, choices...)
	if m.Intn(2) == 0 {
		s.Rel, s.Then, s.Else = turned[s.Rel], s.Else, s.Then
	}
	return s
}

// bad returns statements with a flaw.
func (m maker) bad() []api.Stmt {
	i := m.Intn(len(m.vars))
	v := m.vars[i]
	return list(pick(m,
		assign(i, number(pick(m, v.High+1, 1000000000), v.Unit)),
		assign(i, node(api.ExDiv, variable(i), plain(0))),
		when(node(api.ExDiv, plain(1), plain(0)), api.RelLess, plain(1), nil, nil),
		assign(i, node(api.ExMul, node(api.ExMul, plain(1000000000), plain(1001)), number(0, v.Unit)))))
}

// put returns statements with another one somewhere among them, or among those in them.
func (m maker) put(stmts []api.Stmt, s api.Stmt) []api.Stmt {
	stmts = slices.Clone(stmts)
	i := m.Intn(len(stmts) + 1)
	if i < len(stmts) && stmts[i].Kind == api.StIf && m.Intn(3) > 0 {
		if m.Intn(2) == 0 {
			stmts[i].Then = m.put(stmts[i].Then, s)
		} else {
			stmts[i].Else = m.put(stmts[i].Else, s)
		}
		return stmts
	}
	return slices.Insert(stmts, i, s)
}

// expectSameFlaws checks that a change of statements leaves the flaws of handlers as they were.
func expectSameFlaws(t *testing.T, seed int64, change func(m maker, stmts []api.Stmt) []api.Stmt) {
	t.Helper()
	count := map[api.Errno]int{}
	for m := range makers(seed, 6000) {
		p := m.program()
		event := m.Intn(api.Events)
		want := flawOf(t, p, event)
		p.On[event] = change(m, p.On[event])
		// There may be too many statements now.
		if !control.Valid(p) {
			continue
		}
		if got := flawOf(t, p, event); got != want {
			t.Fatalf("%v, %s: %v; want %v", p.Vars, brief(p.On[event]), got, want)
		}
		count[want]++
	}
	if count[api.OK] < 1000 || count[api.ErrOver] < 1000 || count[api.ErrZero] < 50 {
		t.Errorf("%v", count)
	}
}

// P7.7: statements that cannot be reached are put somewhere, with all kinds of flaws.
func TestNever(t *testing.T) {
	expectSameFlaws(t, 78, func(m maker, stmts []api.Stmt) []api.Stmt {
		dead := m.stmts(2)
		for range m.Intn(3) {
			dead = m.put(dead, m.bad()[0])
		}
		for range 1 + m.Intn(3) {
			stmts = m.put(stmts, m.never(dead, nil))
		}
		return stmts
	})
}

// P7.7: what is always so is run: an if with a list that cannot be reached is like the other list.
func TestAlways(t *testing.T) {
	expectSameFlaws(t, 79, func(m maker, stmts []api.Stmt) []api.Stmt { return list(m.never(m.bad(), stmts)) })
}

// P7.7: by what the ifs around it say, a list cannot be reached.
func TestNeverInside(t *testing.T) {
	w := variable(0)
	over := list(assign(0, packets(101)))
	for rel := api.RelLess; rel <= api.RelEqual; rel++ {
		for _, n := range []int{2, 50, 99} {
			expectFlaw(t, api.OK, when(w, rel, packets(n), list(when(w, turned[rel], packets(n), over, nil)), nil))
			expectFlaw(t, api.OK, when(w, rel, packets(n), list(when(packets(n), swapped[rel], w, nil, over)), nil))
			expectFlaw(t, api.OK, when(packets(n), rel, w, list(when(packets(n), rel, w, nil, over)), nil))
			expectFlaw(t, api.OK, when(w, turned[rel], packets(n), nil, list(when(packets(n), swapped[rel], w, nil, over))))
		}
	}
	expectFlaw(t, api.OK, assign(0, packets(7)), when(w, api.RelEqual, packets(7), nil, over))
	expectFlaw(t, api.ErrOver, assign(0, packets(7)), when(w, api.RelEqual, packets(7), over, nil))
	expectFlaw(t, api.ErrOver, when(w, api.RelLess, packets(9), list(when(w, api.RelMore, packets(7), over, nil)), nil))
}

// P1: arguments are not modified, with valid programs too, and the same call has the same result.
func TestArguments(t *testing.T) {
	for m := range makers(80, 1000) {
		p := m.program()
		same := copied(p)
		first, _ := ranges.Flaws(p)
		again, _ := ranges.Flaws(p)
		if !slices.Equal(first, again) || !reflect.DeepEqual(p, same) {
			t.Fatalf("%s: %v, %v; it was %s", brief(p), first, again, brief(same))
		}
		vars, in := m.spans(5), m.inputs()
		e := m.anyExpr(5, 4)
		sameVars, sameExpr := slices.Clone(vars), copiedExpr(e)
		s, err := ranges.Eval(vars, in, e)
		if other, otherErr := ranges.Eval(vars, in, e); s != other || err != otherErr || !slices.Equal(vars, sameVars) || !reflect.DeepEqual(e, sameExpr) {
			t.Fatalf("%s: %v, %v, then %v, %v", brief(e), s, err, other, otherErr)
		}
	}
}

func copiedExpr(e api.Expr) api.Expr {
	e.Kids = slices.Clone(e.Kids)
	for i, kid := range e.Kids {
		e.Kids[i] = copiedExpr(kid)
	}
	return e
}

func copiedStmts(stmts []api.Stmt) []api.Stmt {
	stmts = slices.Clone(stmts)
	for i, s := range stmts {
		s.A, s.B, s.Then, s.Else = copiedExpr(s.A), copiedExpr(s.B), copiedStmts(s.Then), copiedStmts(s.Else)
		stmts[i] = s
	}
	return stmts
}

func copied(p api.Program) api.Program {
	p.Vars = slices.Clone(p.Vars)
	for event, stmts := range p.On {
		p.On[event] = copiedStmts(stmts)
	}
	return p
}
