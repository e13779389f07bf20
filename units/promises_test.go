package units_test

import (
	"math/big"
	"reflect"
	"slices"
	"testing"

	"queuelab/api"
	"queuelab/units"
)

// plain returns an expression with a unit, made of products and quotients of numbers.
func plain(u api.Unit) api.Expr {
	e := number(1, api.UnitNone)
	for _, x := range [][2]int{{u.Packets, api.UnitPackets}, {u.Bytes, api.UnitBytes}, {u.Time, api.UnitTime}} {
		for range x[0] {
			e = node(api.ExMul, e, number(1, x[1]))
		}
		for range -x[0] {
			e = node(api.ExDiv, e, number(1, x[1]))
		}
	}
	return e
}

// unitPairs calls f with pairs of units: all those with exponents of one, and many others.
func unitPairs(f func(a, b api.Unit)) {
	for x := -4; x <= 4; x++ {
		for y := -4; y <= 4; y++ {
			f(unit(x, 0, 0), unit(y, 0, 0))
			f(unit(0, x, 0), unit(0, y, 0))
			f(unit(0, 0, x), unit(0, 0, y))
			f(unit(x, 0, 0), unit(0, y, 0))
			f(unit(0, x, y), unit(0, y, x))
		}
	}
	for m := range makers(21, 10000) {
		exponent := func() int { return m.Intn(9) - 4 }
		a := unit(exponent(), exponent(), exponent())
		f(a, a)
		f(a, unit(exponent(), exponent(), exponent()))
		f(a, unit(a.Packets, a.Bytes, exponent()))
		f(a, unit(exponent(), a.Bytes, a.Time))
		f(a, unit(a.Packets, exponent(), a.Time))
	}
}

// expectResult checks that an expression has a unit, or ErrUnit if this is nil.
func expectResult(t *testing.T, e api.Expr, want *api.Unit) {
	t.Helper()
	got, err := units.Infer(nil, e)
	if want == nil && (err != api.ErrUnit || got != api.Unit{}) || want != nil && (err != api.OK || got != *want) {
		t.Fatalf("%s: %v, %v; want %v", brief(e), got, err, want)
	}
}

// sumOf returns the unit with the exponents of both, the second ones taken some times, or nil if one is too great or too small.
func sumOf(a, b api.Unit, times int) *api.Unit {
	u := unit(a.Packets+times*b.Packets, a.Bytes+times*b.Bytes, a.Time+times*b.Time)
	if max(u.Packets, u.Bytes, u.Time) > 4 || min(u.Packets, u.Bytes, u.Time) < -4 {
		return nil
	}
	return &u
}

// P4.2.
func TestOperations(t *testing.T) {
	unitPairs(func(a, b api.Unit) {
		left, right := plain(a), plain(b)
		expectResult(t, left, &a)
		expectResult(t, node(api.ExMul, left, right), sumOf(a, b, 1))
		expectResult(t, node(api.ExDiv, left, right), sumOf(a, b, -1))
		expectResult(t, node(api.ExUp, left, right), sumOf(a, b, -1))
		var both *api.Unit
		if a == b {
			both = &a
		}
		for _, op := range []int{api.ExAdd, api.ExSub, api.ExMin, api.ExMax} {
			expectResult(t, node(op, left, right), both)
		}
	})
}

// evaluation has what an expression without quotients is evaluated with; scale says by what the numbers of each kind are multiplied.
type evaluation struct {
	vars   []api.Var
	values []int64
	inputs [api.Inputs]int64
	scale  [5]*big.Rat
}

func (x evaluation) scaled(n int64, kind int) *big.Rat {
	return new(big.Rat).Mul(big.NewRat(n, 1), x.scale[kind])
}

func (x evaluation) value(e api.Expr) *big.Rat {
	switch e.Op {
	case api.ExNumber:
		return x.scaled(int64(e.N), e.Unit)
	case api.ExVar:
		return x.scaled(x.values[e.N], x.vars[e.N].Unit)
	case api.ExInput:
		kinds := [api.Inputs]int{api.InAcked: api.UnitPackets, api.InRtt: api.UnitTime, api.InSize: api.UnitBytes, api.InTotal: api.UnitPackets}
		return x.scaled(x.inputs[e.N], kinds[e.N])
	}
	a, b := x.value(e.Kids[0]), x.value(e.Kids[1])
	switch e.Op {
	case api.ExAdd:
		return a.Add(a, b)
	case api.ExSub:
		return a.Sub(a, b)
	case api.ExMul:
		return a.Mul(a, b)
	}
	if (a.Cmp(b) < 0) == (e.Op == api.ExMin) {
		return a
	}
	return b
}

// P4.3, and the same for bytes and time, on which rates depend.
func TestScaling(t *testing.T) {
	powers := map[api.Unit]int{}
	for m := range makers(22, 5000) {
		m.quotients = false
		x := evaluation{vars: m.vars}
		for range m.vars {
			x.values = append(x.values, m.Int63n(1000))
		}
		for i := range x.inputs {
			x.inputs[i] = m.Int63n(1000)
		}
		e := m.product(4)
		u, err := units.Infer(m.vars, e)
		if err != api.OK {
			continue
		}
		powers[u]++
		for _, by := range [][3]int64{{2, 1, 1}, {1000, 1, 1}, {7, 3, 1}, {1, 1, 10}, {2, 3, 5}} {
			x.scale = scales(1, 1, 1)
			before := x.value(e)
			x.scale = scales(by[0], by[1], by[2])
			after := x.value(e)
			for _, p := range [][2]int64{{by[0], int64(u.Packets)}, {by[1], int64(u.Bytes)}, {by[2], int64(u.Time)}} {
				before.Mul(before, power(p[0], int(p[1])))
			}
			if before.Cmp(after) != 0 {
				t.Fatalf("%s: %v; %v times as great: %v; want %v", brief(e), u, by, after, before)
			}
		}
	}
	if len(powers) < 50 {
		t.Errorf("only %d units", len(powers))
	}
}

// scales says by what the numbers of each kind are multiplied if packets, bytes and times are.
func scales(packets, bytes, time int64) [5]*big.Rat {
	return [5]*big.Rat{big.NewRat(1, 1), big.NewRat(packets, 1), big.NewRat(bytes, 1), big.NewRat(time, 1), big.NewRat(bytes, time)}
}

// P4.4: the unit does not depend on the order of both.
func TestSwapped(t *testing.T) {
	count := map[api.Errno]int{}
	for m := range makers(23, 5000) {
		a := m.product(3).Kids[0]
		for _, b := range []api.Expr{a, m.product(3).Kids[0], m.product(3).Kids[1], m.leaf(m.Intn(5))} {
			for _, op := range []int{api.ExAdd, api.ExMul, api.ExMin, api.ExMax} {
				one, err := units.Infer(m.vars, node(op, a, b))
				other, otherErr := units.Infer(m.vars, node(op, b, a))
				if one != other || err != otherErr {
					t.Fatalf("%s, %s: %v, %v; %v, %v", brief(a), brief(b), one, err, other, otherErr)
				}
				count[err]++
			}
		}
	}
	if count[api.OK] < 5000 || count[api.ErrUnit] < 5000 {
		t.Errorf("%v", count)
	}
}

// P4.4: an expression has an error if and only if one of its parts does, or the units do not fit.
func TestErrorsOfParts(t *testing.T) {
	count := map[bool]int{}
	for m := range makers(24, 5000) {
		a, b := m.product(2).Kids[0], m.product(2).Kids[1]
		switch m.Intn(4) {
		case 0:
			a = m.changed(a)
		case 1:
			b = m.changed(b)
		}
		if size(a)+size(b) >= 60 {
			continue
		}
		left, leftErr := units.Infer(m.vars, a)
		right, rightErr := units.Infer(m.vars, b)
		for op := api.ExAdd; op <= api.ExMax; op++ {
			fit := left == right
			switch op {
			case api.ExMul:
				fit = sumOf(left, right, 1) != nil
			case api.ExDiv, api.ExUp:
				fit = sumOf(left, right, -1) != nil
			}
			wanted := leftErr != api.OK || rightErr != api.OK || !fit
			if _, err := units.Infer(m.vars, node(op, a, b)); (err != api.OK) != wanted {
				t.Fatalf("%d, %s, %s: %v", op, brief(a), brief(b), err)
			}
			count[wanted]++
		}
	}
	if count[true] < 5000 || count[false] < 5000 {
		t.Errorf("%v", count)
	}
}

// P4.5.
func TestHandlers(t *testing.T) {
	first := map[int]int{}
	for m := range makers(25, 3000) {
		p := m.program()
		for range m.Intn(4) {
			event := m.Intn(api.Events)
			p.On[event] = m.changedStmts(p.On[event])
		}
		want, wantErr := -1, api.OK
		for event, list := range p.On {
			alone := api.Program{Vars: p.Vars}
			alone.On[event] = list
			got, err := units.Check(alone)
			if err != api.OK && got != event || err == api.OK && got != -1 {
				t.Fatalf("%s: %d, %v", brief(alone), got, err)
			}
			if wantErr == api.OK && err != api.OK {
				want, wantErr = event, err
			}
		}
		if got, err := units.Check(p); got != want || err != wantErr {
			t.Fatalf("%s: %d, %v; want %d, %v", brief(p), got, err, want, wantErr)
		}
		first[want]++
	}
	for event := -1; event < api.Events; event++ {
		if first[event] < 100 {
			t.Errorf("%v", first)
		}
	}
}

// P4.5: an error is found in each handler; the first one is reported, whichever errors are behind it.
func TestFirstHandler(t *testing.T) {
	wrong := map[api.Errno]api.Stmt{api.ErrArg: {}, api.ErrUnit: assign(0, number(1, api.UnitTime)), api.ErrLimit: assign(0, sum(61))}
	for event := range api.Events {
		for err, s := range wrong {
			for _, last := range wrong {
				p := api.Program{Vars: kindVars()}
				for other := event + 1; other < api.Events; other++ {
					p.On[other] = []api.Stmt{last}
				}
				p.On[event] = []api.Stmt{assign(0, number(1, 0)), s}
				if got, e := units.Check(p); got != event || e != err {
					t.Errorf("%d, %v; want %d, %v", got, e, event, err)
				}
			}
		}
	}
}

// P4.6, and P1: what is not mentioned does not matter; and arguments are left as they were.
func TestNoise(t *testing.T) {
	count := map[api.Errno]int{}
	for m := range makers(26, 1000) {
		p := m.program()
		for range m.Intn(3) {
			event := m.Intn(api.Events)
			p.On[event] = m.changedStmts(p.On[event])
		}
		e := m.product(4)
		if m.Intn(2) == 0 {
			e = m.changed(e)
		}
		other, otherExpr := m.noisyProgram(p), m.noisyExpr(e)
		same, sameExpr := copied(other), copiedExpr(otherExpr)

		event, err := units.Check(p)
		if got, gotErr := units.Check(other); got != event || gotErr != err {
			t.Fatalf("%s: %d, %v; want %d, %v", brief(other), got, gotErr, event, err)
		}
		u, exprErr := units.Infer(p.Vars, e)
		if got, gotErr := units.Infer(other.Vars, otherExpr); got != u || gotErr != exprErr {
			t.Fatalf("%s: %v, %v; want %v, %v", brief(otherExpr), got, gotErr, u, exprErr)
		}
		if !reflect.DeepEqual(other, same) || !reflect.DeepEqual(otherExpr, sameExpr) {
			t.Fatalf("an argument was modified")
		}
		count[err]++
	}
	if count[api.OK] < 200 || len(count) < 4 {
		t.Errorf("%v", count)
	}
}

func copiedExpr(e api.Expr) api.Expr {
	e.Kids = slices.Clone(e.Kids)
	for i := range e.Kids {
		e.Kids[i] = copiedExpr(e.Kids[i])
	}
	return e
}

func copiedStmts(list []api.Stmt) []api.Stmt {
	list = slices.Clone(list)
	for i := range list {
		s := &list[i]
		s.A, s.B, s.Then, s.Else = copiedExpr(s.A), copiedExpr(s.B), copiedStmts(s.Then), copiedStmts(s.Else)
	}
	return list
}

func copied(p api.Program) api.Program {
	p.Vars = slices.Clone(p.Vars)
	for event := range p.On {
		p.On[event] = copiedStmts(p.On[event])
	}
	return p
}

// noise returns any number.
func (m maker) noise() int { return pick(m, -1, 0, 1, 2, 5, 100, 1000000001) }

// noisyExpr returns an expression with other values where they do not matter.
func (m maker) noisyExpr(e api.Expr) api.Expr {
	e.Kids = slices.Clone(e.Kids)
	if e.Op != api.ExNumber {
		e.Unit = m.noise()
	}
	if e.Op < api.ExNumber || e.Op > api.ExInput {
		e.N = m.noise()
	}
	for i := range e.Kids {
		e.Kids[i] = m.noisyExpr(e.Kids[i])
	}
	return e
}

// noisyStmts returns statements with other values where they do not matter.
func (m maker) noisyStmts(list []api.Stmt) []api.Stmt {
	list = slices.Clone(list)
	for i := range list {
		s := &list[i]
		s.A = m.noisyExpr(s.A)
		if s.Kind != api.StAssign {
			s.Var = m.noise()
		}
		if s.Kind == api.StIf {
			s.B, s.Then, s.Else = m.noisyExpr(s.B), m.noisyStmts(s.Then), m.noisyStmts(s.Else)
			continue
		}
		s.Rel, s.B = m.noise(), pick(m, api.Expr{}, sum(61), number(1, api.UnitTime))
		s.Then = pick(m, nil, []api.Stmt{{}}, make([]api.Stmt, 101), m.stmts(1))
		s.Else = pick(m, nil, []api.Stmt{{}}, make([]api.Stmt, 101), m.stmts(1))
	}
	return list
}

// noisyProgram returns a program with other values where they do not matter.
func (m maker) noisyProgram(p api.Program) api.Program {
	p.Vars = slices.Clone(p.Vars)
	p.Name, p.Window, p.Pace = pick(m, "", "c", "if", "\x00"), m.noise(), m.noise()
	for i := range p.Vars {
		p.Vars[i] = api.Var{Name: pick(m, "", "x", "rtt", "7"), Unit: p.Vars[i].Unit, Low: m.noise(), High: m.noise(), Init: m.noise()}
	}
	for event := range p.On {
		p.On[event] = m.noisyStmts(p.On[event])
	}
	return p
}
