package machine_test

import (
	"math/big"
	"slices"
	"testing"

	"queuelab/api"
	"queuelab/code"
	"queuelab/machine"
)

// outcome is what both functions return for a run.
type outcome struct {
	state []int
	err   api.Errno
	steps int
}

func (o outcome) equals(p outcome) bool {
	return slices.Equal(o.state, p.state) && o.err == p.err && o.steps == p.steps
}

// outcomeOf calls both functions; those errors of Steps that it must not return are errors of the test.
func outcomeOf(t *testing.T, vars []api.Var, c api.Code, state []int, call api.Call) outcome {
	t.Helper()
	after, err := machine.Run(vars, c, state, call)
	steps, refused := machine.Steps(vars, c, state, call)
	if refused != api.OK && (refused != api.ErrArg || steps != 0) || (refused == api.ErrArg) != (err == api.ErrArg) || err != api.OK && len(after) > 0 {
		t.Fatalf("%s, %v, %v: %v, %v and %v, %v", brief(c), state, call, after, err, steps, refused)
	}
	return outcome{after, err, steps}
}

// rounded is the greatest number that is not greater than x / y.
func rounded(x, y *big.Int) *big.Int {
	if y.Sign() < 0 {
		x, y = new(big.Int).Neg(x), new(big.Int).Neg(y)
	}
	return new(big.Int).Div(x, y)
}

// result is what an operation on two numbers leads to, without a limit; it is nil for a division by 0.
func result(op int, x, y *big.Int) *big.Int {
	n := new(big.Int)
	switch {
	case op == api.CoAdd:
		return n.Add(x, y)
	case op == api.CoSub:
		return n.Sub(x, y)
	case op == api.CoMul:
		return n.Mul(x, y)
	case (op == api.CoMin) == (x.Cmp(y) < 0) && op >= api.CoMin:
		return x
	case op >= api.CoMin:
		return y
	case y.Sign() == 0:
		return nil
	}
	n = rounded(x, y)
	// The least number that is not less is greater by 1, unless the quotient is a whole number.
	if op == api.CoUp && new(big.Int).Mul(n, y).Cmp(x) != 0 {
		n.Add(n, big.NewInt(1))
	}
	return n
}

// moment is a run between two instructions; no list of it is changed when it goes on.
type moment struct {
	at    int
	state []int
	stack []*big.Int
}

// next is what an instruction leads to, or the error with which it fails.
func (w moment) next(vars []api.Var, in [api.Inputs]int, x api.Instr) (moment, api.Errno) {
	w.at++
	from := len(w.stack)
	pushed := big.NewInt(int64(x.N))
	switch x.Op {
	case api.CoVar:
		pushed = big.NewInt(int64(w.state[x.N]))
	case api.CoInput:
		pushed = big.NewInt(int64(in[x.N]))
	case api.CoStore:
		n := int(w.stack[from-1].Int64())
		if n < vars[x.N].Low || vars[x.N].High < n {
			return w, api.ErrOver
		}
		return moment{w.at, slices.Concat(w.state[:x.N], []int{n}, w.state[x.N+1:]), w.stack[:from-1]}, api.OK
	case api.CoUnless:
		if order := w.stack[from-2].Cmp(w.stack[from-1]); !slices.Contains([][]int{1: {-1}, 2: {-1, 0}, 3: {1}, 4: {0, 1}, 5: {0}, 6: {-1, 1}}[x.Rel], order) {
			w.at = x.N
		}
		return moment{w.at, w.state, w.stack[:from-2]}, api.OK
	case api.CoJump:
		w.at = x.N
		return w, api.OK
	}
	if x.Op >= api.CoAdd {
		from -= 2
		if pushed = result(x.Op, w.stack[from], w.stack[from+1]); pushed == nil {
			return w, api.ErrZero
		}
	}
	if pushed.CmpAbs(big.NewInt(most)) > 0 {
		return w, api.ErrRange
	}
	return moment{w.at, w.state, append(slices.Clone(w.stack[:from]), pushed)}, api.OK
}

// wanted is the specification of both functions.
func wanted(vars []api.Var, c api.Code, state []int, call api.Call) outcome {
	right := code.Verify(c, len(vars)) && len(state) == len(vars) && call.Event >= 0 && call.Event < 5
	for i := 0; i < len(vars) && right; i++ {
		n := state[i]
		right = n >= vars[i].Low && n <= vars[i].High && n >= -most && n <= most
	}
	in := call.In
	if !right || in[0] < 1 || in[0] > 1000 || in[1] < 1 || in[1] > 10000000 || in[2] < 1 || in[2] > 10000 || in[3] < 0 || in[3] > 4000 {
		return outcome{err: api.ErrArg}
	}
	w := moment{state: state}
	for steps := 0; ; steps++ {
		if w.at == len(c.On[call.Event]) {
			return outcome{w.state, api.OK, steps}
		}
		var err api.Errno
		if w, err = w.next(vars, call.In, c.On[call.Event][w.at]); err != api.OK {
			return outcome{nil, err, steps + 1}
		}
	}
}

// expectWanted compares both functions with the specification, and returns what they return.
func expectWanted(t *testing.T, vars []api.Var, c api.Code, state []int, call api.Call) outcome {
	t.Helper()
	got, want := outcomeOf(t, vars, c, state, call), wanted(vars, c, state, call)
	if !got.equals(want) {
		t.Fatalf("%s, %s, %v, %v: %v; want %v", brief(vars), brief(c.On), state, call, got, want)
	}
	return got
}

// P10.1: code of all kinds.
func TestAnyCode(t *testing.T) {
	count := map[api.Errno]int{}
	skipped, long := 0, 0
	for m := range makers(1, 4000, anyVars) {
		c := m.code()
		for range 10 {
			state, call := m.state(), m.call()
			got := expectWanted(t, m.vars, c, state, call)
			count[got.err]++
			if got.err == api.OK && got.steps < len(c.On[call.Event]) {
				skipped++
			}
			if got.steps > 30 {
				long++
			}
		}
	}
	if count[api.OK] < 5000 || count[api.ErrZero] < 500 || count[api.ErrRange] < 500 || count[api.ErrOver] < 1000 || count[api.ErrArg] > 0 || skipped < 1000 || long < 1000 {
		t.Errorf("%v, %d, %d", count, skipped, long)
	}
}

// P10.1: what is not quite right.
func TestChangedArguments(t *testing.T) {
	count := map[api.Errno]int{}
	for m := range makers(2, 10000, anyVars) {
		c, state, call := m.code(), m.state(), m.call()
		i := m.Intn(len(state))
		switch m.Intn(6) {
		case 0, 1:
			event := pick(m, call.Event, m.Intn(api.Events))
			c.On[event] = m.changed(c.On[event])
		case 2:
			state[i] = pick(m, m.vars[i].Low-1, m.vars[i].High+1, most+1, -most-1, most, -most)
		case 3:
			state = pick(m, state[:i], append(state, 0))
		case 4:
			call.In[m.Intn(api.Inputs)] = pick(m, -1, 0, 1, 1000, 1001, 4000, 4001, 10000, 10001, 10000000, 10000001)
		case 5:
			call.Event = pick(m, -1, 0, 4, 5)
		}
		count[expectWanted(t, m.vars, c, state, call).err]++
	}
	if count[api.OK] < 1000 || count[api.ErrArg] < 2000 || len(count) < 5 {
		t.Errorf("%v", count)
	}
}

// P10.1: all short code of some instructions.
func TestShortCode(t *testing.T) {
	vars := []api.Var{{Low: 1, High: 9}}
	count := map[api.Errno]int{}
	var extend func(list []api.Instr)
	extend = func(list []api.Instr) {
		if code.Verify(codeWith(2, list...), 1) {
			for w := 1; w <= 9; w += 2 {
				count[expectWanted(t, vars, codeWith(2, list...), []int{w}, callOf(2)).err]++
			}
		}
		if len(list) == 6 {
			return
		}
		last := slices.Clip(list)
		for _, x := range []api.Instr{push(0), push(3), load(0), {Op: api.CoSub}, {Op: api.CoUp}, store(0), unless(api.RelMore, len(list)+2), unless(api.RelAtMost, 5), jump(6)} {
			extend(append(last, x))
		}
	}
	extend(nil)
	if count[api.OK] < 1000 || count[api.ErrZero] < 500 || count[api.ErrOver] < 1000 {
		t.Errorf("%v", count)
	}
}
