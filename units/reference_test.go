package units_test

import (
	"cmp"
	"math/big"
	"testing"

	"queuelab/api"
	"queuelab/units"
)

// measures has each unit with exponents from -4 to 4 by a number that stands for it: packets are 2, bytes 3, times 5, and products of units products of numbers. So the reference needs no exponents.
var measures = func() map[string]api.Unit {
	m := map[string]api.Unit{}
	for packets := -4; packets <= 4; packets++ {
		for bytes := -4; bytes <= 4; bytes++ {
			for time := -4; time <= 4; time++ {
				m[measure(unit(packets, bytes, time)).String()] = unit(packets, bytes, time)
			}
		}
	}
	return m
}()

// measure returns the number that stands for a unit.
func measure(u api.Unit) *big.Rat {
	n := power(2, u.Packets)
	n.Mul(n, power(3, u.Bytes))
	return n.Mul(n, power(5, u.Time))
}

func power(n int64, exponent int) *big.Rat {
	p := big.NewRat(1, 1)
	for range exponent {
		p.Mul(p, big.NewRat(n, 1))
	}
	for range -exponent {
		p.Quo(p, big.NewRat(n, 1))
	}
	return p
}

// kindMeasures has the numbers of the kinds of units, as the chapter has them.
var kindMeasures = []*big.Rat{big.NewRat(1, 1), big.NewRat(2, 1), big.NewRat(3, 1), big.NewRat(5, 1), big.NewRat(3, 5)}

// row is one of the chapter's table.
type row struct {
	ops     []int
	kids    int
	right   func(vars []api.Var, e api.Expr) bool
	measure func(vars []api.Var, e api.Expr, kids []*big.Rat) *big.Rat
}

// table is the chapter's one. A measure that is nil is that of kids which do not fit.
var table = []row{
	{[]int{1}, 0, func(_ []api.Var, e api.Expr) bool {
		return e.N >= 0 && e.N <= 1000000000 && e.Unit >= 0 && e.Unit <= 4
	}, func(_ []api.Var, e api.Expr, _ []*big.Rat) *big.Rat { return kindMeasures[e.Unit] }},
	{[]int{2}, 0, func(vars []api.Var, e api.Expr) bool { return e.N >= 0 && e.N < len(vars) },
		func(vars []api.Var, e api.Expr, _ []*big.Rat) *big.Rat { return kindMeasures[vars[e.N].Unit] }},
	{[]int{3}, 0, func(_ []api.Var, e api.Expr) bool { return e.N >= 0 && e.N < 4 },
		func(_ []api.Var, e api.Expr, _ []*big.Rat) *big.Rat {
			return []*big.Rat{kindMeasures[1], kindMeasures[3], kindMeasures[2], kindMeasures[1]}[e.N]
		}},
	{[]int{4, 5, 9, 10}, 2, nil, func(_ []api.Var, _ api.Expr, kids []*big.Rat) *big.Rat {
		if kids[0].Cmp(kids[1]) != 0 {
			return nil
		}
		return kids[0]
	}},
	{[]int{6}, 2, nil, func(_ []api.Var, _ api.Expr, kids []*big.Rat) *big.Rat { return new(big.Rat).Mul(kids[0], kids[1]) }},
	{[]int{7, 8}, 2, nil, func(_ []api.Var, _ api.Expr, kids []*big.Rat) *big.Rat { return new(big.Rat).Quo(kids[0], kids[1]) }},
}

// rowOf returns the row of an operation.
func rowOf(op int) (row, bool) {
	for _, r := range table {
		for _, x := range r.ops {
			if x == op {
				return r, true
			}
		}
	}
	return row{}, false
}

// expression returns what stands for the unit of an expression, or its error.
func expression(vars []api.Var, e api.Expr) (*big.Rat, api.Errno) {
	var kids []*big.Rat
	for _, kid := range e.Kids {
		n, err := expression(vars, kid)
		if err != api.OK {
			return nil, err
		}
		kids = append(kids, n)
	}
	r, ok := rowOf(e.Op)
	if !ok || len(kids) != r.kids || r.right != nil && !r.right(vars, e) {
		return nil, api.ErrArg
	}
	n := r.measure(vars, e, kids)
	if n == nil {
		return nil, api.ErrUnit
	}
	if _, ok := measures[n.String()]; !ok {
		return nil, api.ErrUnit
	}
	return n, api.OK
}

// alike returns ErrUnit for two expressions with different units.
func alike(vars []api.Var, a, b api.Expr) api.Errno {
	left, _ := expression(vars, a)
	right, _ := expression(vars, b)
	if left != nil && right != nil && left.Cmp(right) != 0 {
		return api.ErrUnit
	}
	return api.OK
}

// wrong returns ErrArg unless something holds.
func wrong(holds bool) api.Errno {
	if !holds {
		return api.ErrArg
	}
	return api.OK
}

// statements returns the first error of statements.
func statements(vars []api.Var, list []api.Stmt) api.Errno {
	err := api.OK
	for _, s := range list {
		_, a := expression(vars, s.A)
		_, b := expression(vars, s.B)
		switch s.Kind {
		case 1:
			err = cmp.Or(err, wrong(s.Var >= 0 && s.Var < len(vars)), a, alike(vars, s.A, variable(s.Var)))
		case 2:
			err = cmp.Or(err, wrong(s.Rel >= 1 && s.Rel <= 6), a, b, alike(vars, s.A, s.B), statements(vars, s.Then), statements(vars, s.Else))
		default:
			err = cmp.Or(err, api.ErrArg)
		}
	}
	return err
}

// size returns how many nodes an expression has.
func size(e api.Expr) int {
	n := 1
	for _, kid := range e.Kids {
		n += size(kid)
	}
	return n
}

// sizes returns how many statements a list has, and how many nodes the longest expression.
func sizes(list []api.Stmt) (stmts, nodes int) {
	for _, s := range list {
		stmts, nodes = stmts+1, max(nodes, size(s.A))
		if s.Kind == 2 {
			then, longThen := sizes(s.Then)
			other, longElse := sizes(s.Else)
			stmts, nodes = stmts+then+other, max(nodes, size(s.B), longThen, longElse)
		}
	}
	return stmts, nodes
}

func wantedVars(vars []api.Var) api.Errno {
	err := wrong(len(vars) <= 12)
	for _, v := range vars {
		err = cmp.Or(err, wrong(v.Unit >= 0 && v.Unit <= 4))
	}
	return err
}

// wantedInfer is the specification of Infer.
func wantedInfer(vars []api.Var, e api.Expr) (api.Unit, api.Errno) {
	if err := wantedVars(vars); err != api.OK {
		return api.Unit{}, err
	}
	if size(e) > 60 {
		return api.Unit{}, api.ErrLimit
	}
	n, err := expression(vars, e)
	if err != api.OK {
		return api.Unit{}, err
	}
	return measures[n.String()], api.OK
}

// wantedCheck is the specification of Check.
func wantedCheck(p api.Program) (int, api.Errno) {
	if err := wantedVars(p.Vars); err != api.OK {
		return 0, err
	}
	for event, list := range p.On {
		stmts, nodes := sizes(list)
		if stmts > 100 || nodes > 60 {
			return event, api.ErrLimit
		}
		if err := statements(p.Vars, list); err != api.OK {
			return event, err
		}
	}
	return -1, api.OK
}

func compareInfer(t *testing.T, vars []api.Var, e api.Expr) api.Errno {
	t.Helper()
	got, err := units.Infer(vars, e)
	want, wantErr := wantedInfer(vars, e)
	if got != want || err != wantErr {
		t.Fatalf("%s: %v, %v; want %v, %v", brief(e), got, err, want, wantErr)
	}
	return err
}

func compareCheck(t *testing.T, p api.Program) api.Errno {
	t.Helper()
	got, err := units.Check(p)
	want, wantErr := wantedCheck(p)
	if got != want || err != wantErr {
		t.Fatalf("%s: %v, %v; want %v, %v", brief(p), got, err, want, wantErr)
	}
	return err
}

// P4.1: all expressions of at most two operations, or three over fewer leaves.
func TestAllExpressions(t *testing.T) {
	vars := kindVars()
	few := []api.Expr{number(1, api.UnitPackets), number(1, api.UnitNone), variable(5)}
	all := []api.Expr{number(1, api.UnitNone), variable(api.UnitPackets), input(api.InSize), input(api.InRtt), number(2, api.UnitRate), variable(-1), number(3, 5)}
	count := map[api.Errno]int{}
	for most, leaves := range map[int][]api.Expr{2: all, 3: few} {
		lists := [][]api.Expr{leaves}
		for operations := 1; operations <= most; operations++ {
			lists = append(lists, operated(lists, api.ExInput, api.ExMax+1))
		}
		for _, list := range lists {
			for _, e := range list {
				count[compareInfer(t, vars, e)]++
			}
		}
	}
	if len(count) != 3 || count[api.OK] < 5000 || count[api.ErrUnit] < 5000 {
		t.Errorf("%v", count)
	}
}

// operated returns all expressions with one operation, from first to last, over expressions of lists, so many operations in all as there are lists.
func operated(lists [][]api.Expr, first, last int) []api.Expr {
	var result []api.Expr
	for left := range lists {
		for op := first; op <= last; op++ {
			for _, a := range lists[left] {
				for _, b := range lists[len(lists)-1-left] {
					result = append(result, node(op, a, b))
				}
			}
		}
	}
	return result
}

// P4.1: expressions of all kinds, right ones and changed ones.
func TestManyExpressions(t *testing.T) {
	count := map[api.Errno]int{}
	for m := range makers(1, 3000) {
		e := m.product(4)
		for range 5 {
			count[compareInfer(t, m.vars, e)]++
			e = m.changed(e)
		}
	}
	for _, err := range []api.Errno{api.OK, api.ErrArg, api.ErrLimit, api.ErrUnit} {
		if count[err] < 100 {
			t.Errorf("%v", count)
		}
	}
}

// P4.1: programs of all kinds, right ones and changed ones.
func TestManyPrograms(t *testing.T) {
	count := map[api.Errno]int{}
	for m := range makers(2, 1000) {
		p := m.program()
		for range 5 {
			count[compareCheck(t, p)]++
			event := m.Intn(api.Events)
			p.On[event] = m.changedStmts(p.On[event])
		}
		if m.Intn(20) == 0 {
			p.Vars[m.Intn(len(p.Vars))].Unit = pick(m, -1, 5)
			compareCheck(t, p)
			compareInfer(t, p.Vars, variable(0))
		}
	}
	for _, err := range []api.Errno{api.OK, api.ErrArg, api.ErrLimit, api.ErrUnit} {
		if count[err] < 100 {
			t.Errorf("%v", count)
		}
	}
}
