package meaning_test

import (
	"math"
	"slices"
	"testing"

	"queuelab/api"
	"queuelab/meaning"
)

// someInputs has a number for each input, all of them different, and only one of them in its range.
var someInputs = [api.Inputs]int{api.InAcked: 7, api.InRtt: -20, api.InSize: 0, api.InTotal: -most}

func expectValue(t *testing.T, state []int, e api.Expr, want int) {
	t.Helper()
	if got, err := meaning.Eval(state, someInputs, e); got != want || err != api.OK {
		t.Errorf("%s, %v: %v, %v; want %v", brief(e), state, got, err, want)
	}
}

func expectError(t *testing.T, state []int, e api.Expr, want api.Errno) {
	t.Helper()
	if got, err := meaning.Eval(state, someInputs, e); got != 0 || err != want {
		t.Errorf("%s, %v: %v, %v; want %v", brief(e), state, got, err, want)
	}
}

// noValues returns numbers that are no values.
func noValues() []int { return []int{most + 1, -most - 1, math.MaxInt, math.MinInt, 1 << 62} }

// P8.1: H2, expressions without kids.
func TestLeaves(t *testing.T) {
	state := []int{2, -3, 0, -most, most, 5}
	for i, n := range state {
		expectValue(t, state, variable(i), n)
	}
	for i, n := range someInputs {
		expectValue(t, state, input(i), n)
		expectValue(t, nil, input(i), n)
	}
	// A number may be any value, unlike that of a valid program.
	for _, n := range []int{0, 1, -1, 1000000000, 1000000001, -1000000001, most, -most} {
		expectValue(t, state, plain(n), n)
		expectValue(t, nil, plain(n), n)
	}
	for _, n := range noValues() {
		expectError(t, nil, plain(n), api.ErrRange)
		expectError(t, []int{1, n}, variable(1), api.ErrRange)
		expectValue(t, []int{1, n}, variable(0), 1)
		for i := range api.Inputs {
			in := someInputs
			in[i] = n
			if got, err := meaning.Eval(nil, in, input(i)); got != 0 || err != api.ErrRange {
				t.Errorf("%d, %d: %v, %v", i, n, got, err)
			}
		}
	}
	// A state may be that of no program.
	long := make([]int, 1000)
	long[999] = 8
	expectValue(t, long, variable(999), 8)
	expectError(t, long, variable(1000), api.ErrArg)
}

// P8.1: H2, each operation is that of its number.
func TestOperations(t *testing.T) {
	state := []int{20, 3}
	a, b := variable(0), variable(1)
	for op, want := range map[int][2]int{
		api.ExAdd: {23, 23}, api.ExSub: {17, -17}, api.ExMul: {60, 60}, api.ExDiv: {6, 0}, api.ExUp: {7, 1}, api.ExMin: {3, 3}, api.ExMax: {20, 20},
	} {
		expectValue(t, state, node(op, a, b), want[0])
		expectValue(t, state, node(op, b, a), want[1])
	}
	expectValue(t, state, node(api.ExSub, node(api.ExMul, a, plain(5)), node(api.ExAdd, b, node(api.ExMax, input(api.InRtt), plain(-2)))), 99)
}

// P8.1: H2, quotients are rounded towards lesser and greater numbers, whatever the signs are.
func TestRounding(t *testing.T) {
	for _, x := range []struct{ a, b, down, up int }{
		{7, 2, 3, 4}, {-7, 2, -4, -3}, {7, -2, -4, -3}, {-7, -2, 3, 4}, {8, 2, 4, 4}, {-8, 2, -4, -4}, {8, -2, -4, -4}, {-8, -2, 4, 4},
		{1, 3, 0, 1}, {-1, 3, -1, 0}, {1, -3, -1, 0}, {-1, -3, 0, 1}, {0, 3, 0, 0}, {0, -3, 0, 0}, {2, 3, 0, 1}, {-2, 3, -1, 0},
		{most, 1, most, most}, {most, -1, -most, -most}, {-most, -1, most, most}, {1, most, 0, 1}, {-1, most, -1, 0}, {most - 1, most, 0, 1}, {1 - most, most, -1, 0}, {most, most, 1, 1}, {most, -most, -1, -1},
		{most, 7, 142857142857, 142857142858}, {-most, 7, -142857142858, -142857142857},
	} {
		expectValue(t, nil, node(api.ExDiv, plain(x.a), plain(x.b)), x.down)
		expectValue(t, nil, node(api.ExUp, plain(x.a), plain(x.b)), x.up)
	}
}

// P8.1: H2, results that are no value, and quotients by 0.
func TestErrorsOfOperations(t *testing.T) {
	for _, x := range []struct{ op, a, b, last, next int }{
		{api.ExAdd, most - 5, 0, 5, 6}, {api.ExAdd, 5 - most, 0, -5, -6}, {api.ExAdd, most, 0, -most, 1}, {api.ExAdd, most, 0, 0, most}, {api.ExAdd, -most, 0, 0, -most},
		{api.ExSub, most - 5, 0, -5, -6}, {api.ExSub, 5 - most, 0, 5, 6}, {api.ExSub, -most, 0, -most, most}, {api.ExSub, most, 0, most, -most},
		{api.ExMul, 1000000, 0, 1000000, 1000001}, {api.ExMul, -1000000, 0, 1000000, 1000001}, {api.ExMul, 1000000, 0, -1000000, -1000001}, {api.ExMul, -1000000, 0, -1000000, -1000001},
		{api.ExMul, most, 0, 1, 2}, {api.ExMul, most, 0, -1, -2}, {api.ExMul, -most, 0, 1, -2}, {api.ExMul, most, 0, 0, most}, {api.ExMul, 3, 0, 333333333333, 333333333334}, {api.ExMul, -3, 0, 333333333333, 333333333334},
		// The product fits into an int again if it is counted modulo 2^64.
		{api.ExMul, 1 << 32, 0, 1, 1 << 32}, {api.ExMul, -1 << 32, 0, 0, 1 << 32}, {api.ExMul, 1 << 32, 0, -1, -1 << 32}, {api.ExMul, -1 << 32, 0, -1, -1 << 32}, {api.ExMul, 1 << 39, 0, 1, 1 << 39}, {api.ExMul, 1 << 39, 0, 1, -1 << 39},
		{api.ExDiv, 5, 0, 1, 0}, {api.ExDiv, 0, 0, 1, 0}, {api.ExDiv, -most, 0, -1, 0}, {api.ExUp, 5, 0, 1, 0}, {api.ExUp, 0, 0, -1, 0}, {api.ExUp, most, 0, -1, 0},
	} {
		want := api.ErrRange
		if x.op == api.ExDiv || x.op == api.ExUp {
			want = api.ErrZero
		}
		state := []int{x.a, x.last, x.next}
		if _, err := meaning.Eval(state, someInputs, node(x.op, variable(0), variable(1))); err != api.OK {
			t.Errorf("%v: %v", x, err)
		}
		expectError(t, state, node(x.op, variable(0), variable(2)), want)
		// A part that is no value is an error even if it is made less again.
		expectError(t, state, node(api.ExMul, node(x.op, variable(0), variable(2)), plain(0)), want)
		expectError(t, state, node(api.ExMin, plain(0), node(x.op, variable(0), variable(2))), want)
	}
	expectValue(t, []int{most, 0}, node(api.ExMul, variable(0), variable(1)), 0)
	expectValue(t, []int{most, 0}, node(api.ExMul, variable(1), variable(0)), 0)
	expectValue(t, []int{most, -most}, node(api.ExMin, variable(0), variable(1)), -most)
	expectValue(t, []int{most, -most}, node(api.ExMax, variable(0), variable(1)), most)
}

// P8.1: expressions that are not well-formed.
func TestWrongExpressions(t *testing.T) {
	state := []int{2, 3}
	wrong := []api.Expr{{}, variable(-1), variable(2), variable(12), variable(math.MinInt), variable(math.MaxInt), input(-1), input(4), input(math.MinInt), input(math.MaxInt)}
	one := plain(1)
	for _, op := range []int{-1, 0, 11, 12, math.MinInt, math.MaxInt} {
		wrong = append(wrong, node(op), node(op, one), node(op, one, one))
	}
	for op := api.ExNumber; op <= api.ExInput; op++ {
		wrong = append(wrong, node(op, one), node(op, one, one), node(op, one, one, one))
	}
	for op := api.ExAdd; op <= api.ExMax; op++ {
		wrong = append(wrong, node(op), node(op, one), node(op, one, one, one), node(op, one, plain(0), one))
	}
	for _, e := range wrong {
		expectError(t, state, e, api.ErrArg)
		expectError(t, state, node(api.ExAdd, one, e), api.ErrArg)
		expectError(t, state, node(api.ExMin, e, one), api.ErrArg)
		expectError(t, state, node(api.ExDiv, e, plain(0)), api.ErrArg)
	}
	expectError(t, nil, variable(0), api.ErrArg)
}

// P8.1: the error is that of the first kid that has one, and what is wrong with the expression itself comes last.
func TestFirstErrorOfExpressions(t *testing.T) {
	one := plain(1)
	zero := node(api.ExDiv, one, plain(0))
	great := node(api.ExMul, plain(most), plain(2))
	for _, x := range []struct {
		e   api.Expr
		err api.Errno
	}{{zero, api.ErrZero}, {great, api.ErrRange}, {plain(most + 1), api.ErrRange}, {variable(0), api.ErrArg}} {
		for _, op := range []int{-1, 0, api.ExNumber, api.ExVar, api.ExInput, api.ExAdd, api.ExDiv, api.ExUp, api.ExMax, 11} {
			for _, last := range []api.Expr{one, zero, great, variable(0), plain(0), plain(most + 1)} {
				expectError(t, nil, node(op, x.e), x.err)
				expectError(t, nil, node(op, x.e, last), x.err)
				expectError(t, nil, node(op, one, x.e, last), x.err)
				expectError(t, nil, node(op, one, one, one, x.e, last), x.err)
				expectError(t, nil, node(op, node(op, x.e, one), last), x.err)
			}
			expectError(t, nil, node(op, one, x.e), x.err)
		}
	}
	// ErrZero goes before ErrRange: the value of such a quotient is none at all.
	expectError(t, nil, node(api.ExDiv, plain(most), plain(0)), api.ErrZero)
}

// P8.1: the limit of nodes, whatever the shape, goes before all else; 60 nodes are possible only in expressions that are not well-formed.
func TestLongExpressions(t *testing.T) {
	chain := func(nodes int) api.Expr {
		e := plain(1)
		for range nodes - 1 {
			e = node(api.ExAdd, e)
		}
		return e
	}
	wide := func(nodes int) api.Expr { return node(api.ExMin, slices.Repeat([]api.Expr{plain(1)}, nodes-1)...) }
	for _, make := range []func(nodes int) api.Expr{chain, wide} {
		expectError(t, nil, make(60), api.ErrArg)
		for _, nodes := range []int{61, 62, 63, 121, 100000} {
			expectError(t, nil, make(nodes), api.ErrLimit)
		}
	}
	for nodes := 2; nodes < 59; nodes++ {
		expectError(t, nil, node(api.ExAdd, chain(nodes), wide(59-nodes)), api.ErrArg)
		expectError(t, nil, node(api.ExAdd, chain(nodes), wide(60-nodes)), api.ErrLimit)
	}
	expectError(t, nil, node(api.ExAdd, plain(1), plain(1), wide(57)), api.ErrArg)
	expectError(t, nil, node(api.ExAdd, plain(1), plain(1), wide(58)), api.ErrLimit)
	zero := node(api.ExDiv, plain(1), plain(0))
	expectValue(t, nil, sum(59), 30)
	expectError(t, nil, sum(61), api.ErrLimit)
	expectError(t, nil, node(api.ExAdd, sum(59), zero), api.ErrLimit)
	expectError(t, nil, node(api.ExAdd, zero, sum(59)), api.ErrLimit)
	expectError(t, nil, node(0, sum(59), variable(0)), api.ErrLimit)
	expectError(t, nil, node(api.ExAdd, sum(55), zero), api.ErrZero)
	// A slice of expressions may contain itself: once, or more and more often with each level.
	for kids := 1; kids <= 3; kids++ {
		e := node(api.ExAdd, make([]api.Expr, kids)...)
		for i := range e.Kids {
			e.Kids[i] = e
		}
		expectError(t, nil, e, api.ErrLimit)
	}
}

// P8.1: fields without a meaning do not matter, nor does the unit of a number.
func TestOtherFields(t *testing.T) {
	for _, n := range []int{-1, 1, 5, math.MinInt, math.MaxInt} {
		expectValue(t, []int{5}, api.Expr{Op: api.ExNumber, N: 3, Unit: n}, 3)
		expectValue(t, []int{5}, api.Expr{Op: api.ExVar, N: 0, Unit: n}, 5)
		expectValue(t, []int{5}, api.Expr{Op: api.ExInput, N: api.InAcked, Unit: n}, 7)
		expectValue(t, []int{5}, api.Expr{Op: api.ExMul, N: n, Unit: n, Kids: []api.Expr{variable(0), plain(2)}}, 10)
	}
	expectValue(t, nil, node(api.ExAdd, api.Expr{Op: api.ExNumber, N: 3, Unit: api.UnitTime}, api.Expr{Op: api.ExNumber, N: 4, Unit: api.UnitRate}), 7)
}
