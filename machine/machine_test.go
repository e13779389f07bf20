package machine_test

import (
	"fmt"
	"math"
	"slices"
	"testing"

	"queuelab/api"
	"queuelab/machine"
)

const most = 1000000000000

func number(n, kind int) api.Expr         { return api.Expr{Op: api.ExNumber, N: n, Unit: kind} }
func variable(n int) api.Expr             { return api.Expr{Op: api.ExVar, N: n} }
func node(op int, k ...api.Expr) api.Expr { return api.Expr{Op: op, Kids: k} }

func push(n int) api.Instr        { return api.Instr{Op: api.CoPush, N: n} }
func load(n int) api.Instr        { return api.Instr{Op: api.CoVar, N: n} }
func take(n int) api.Instr        { return api.Instr{Op: api.CoInput, N: n} }
func store(n int) api.Instr       { return api.Instr{Op: api.CoStore, N: n} }
func unless(rel, n int) api.Instr { return api.Instr{Op: api.CoUnless, N: n, Rel: rel} }
func jump(n int) api.Instr        { return api.Instr{Op: api.CoJump, N: n} }

// brief returns what a message says of a value.
func brief(x any) string {
	text := fmt.Sprintf("%+v", x)
	return text[:min(len(text), 500)]
}

// codeWith returns code with a handler for one event.
func codeWith(event int, list ...api.Instr) api.Code {
	var c api.Code
	c.On[event] = list
	return c
}

// callOf returns a call with inputs that are all different.
func callOf(event int) api.Call {
	return api.Call{Event: event, In: [api.Inputs]int{api.InAcked: 3, api.InRtt: 50, api.InSize: 700, api.InTotal: 0}}
}

// someVars returns w from 1 to 100, v from -5 to 5, n with all values, and m with all numbers.
func someVars() []api.Var {
	return []api.Var{{Low: 1, High: 100}, {Low: -5, High: 5}, {Low: -most, High: most}, {Low: math.MinInt, High: math.MaxInt}}
}

// expectRun runs code of a handler for someVars.
func expectRun(t *testing.T, state []int, want outcome, list ...api.Instr) {
	t.Helper()
	for event := range api.Events {
		if got := outcomeOf(t, someVars(), codeWith(event, list...), state, callOf(event)); !got.equals(want) {
			t.Errorf("%v, %v: %v; want %v", list, state, got, want)
		}
	}
}

// expectPushed expects a number after code that puts nothing else on the stack.
func expectPushed(t *testing.T, want int, list ...api.Instr) {
	t.Helper()
	state := []int{7, -2, most, -20}
	expectRun(t, state, outcome{[]int{7, -2, want, -20}, api.OK, len(list) + 1}, append(list, store(2))...)
}

// expectFailure expects that the last instruction fails, whatever comes after it, and that nothing of the state remains.
func expectFailure(t *testing.T, err api.Errno, list ...api.Instr) {
	t.Helper()
	rest := []api.Instr{push(2), {Op: api.CoMax}, store(2), push(5), store(0)}
	if last := list[len(list)-1]; last.Op == api.CoStore {
		rest = rest[3:]
	}
	list = joined([]api.Instr{push(9), store(0)}, list)
	expectRun(t, []int{7, -2, most, -20}, outcome{nil, err, len(list)}, append(list, rest...)...)
}

// P10.1: the chapter's examples.
func TestExamples(t *testing.T) {
	vars := []api.Var{{Name: "w", Low: 1, High: 100}}
	halved := func(by int) api.Code {
		return codeWith(api.OnLoss, load(0), push(by), api.Instr{Op: api.CoDiv}, store(0))
	}
	pushed := codeWith(api.OnLoss, load(0), push(2), api.Instr{Op: api.CoMul}, push(50), api.Instr{Op: api.CoMax}, store(0))
	for _, x := range []struct {
		c     api.Code
		event int
		want  outcome
	}{
		{halved(2), api.OnLoss, outcome{[]int{3}, api.OK, 4}},
		{halved(2), api.OnAck, outcome{[]int{7}, api.OK, 0}},
		{halved(0), api.OnLoss, outcome{nil, api.ErrZero, 3}},
		{halved(9), api.OnLoss, outcome{nil, api.ErrOver, 4}},
		{pushed, api.OnLoss, outcome{[]int{50}, api.OK, 6}},
	} {
		if got := outcomeOf(t, vars, x.c, []int{7}, callOf(x.event)); !got.equals(x.want) {
			t.Errorf("%v, %d: %v; want %v", x.c, x.event, got, x.want)
		}
	}
}

// P10.1: what is pushed as it is.
func TestPushes(t *testing.T) {
	for _, n := range []int{0, 1, -1, 1000000000, 1000000001, -1000000001, most, -most} {
		expectPushed(t, n, push(n))
	}
	for i, n := range []int{7, -2, most, -20} {
		expectPushed(t, n, load(i))
	}
	for i, n := range []int{3, 50, 700, 0} {
		expectPushed(t, n, take(i))
	}
	// A variable is read as it is by then.
	expectRun(t, []int{7, -2, 0, 0}, outcome{[]int{8, 4, 8, 4}, api.OK, 8}, push(8), store(0), load(0), store(2), push(4), store(1), load(1), store(3))
}

// P10.1: each operation is that of its number, on both numbers in the order in which they were pushed.
func TestOperations(t *testing.T) {
	for op, want := range map[int][2]int{
		api.CoAdd: {23, 23}, api.CoSub: {17, -17}, api.CoMul: {60, 60}, api.CoDiv: {6, 0}, api.CoUp: {7, 1}, api.CoMin: {3, 3}, api.CoMax: {20, 20},
	} {
		expectPushed(t, want[0], push(20), push(3), api.Instr{Op: op})
		expectPushed(t, want[1], push(3), push(20), api.Instr{Op: op})
		// What lies below on the stack does not matter, and stays.
		expectPushed(t, 1000-want[0], push(1000), push(20), push(3), api.Instr{Op: op}, api.Instr{Op: api.CoSub})
	}
}

// P10.1: quotients are rounded towards lesser and greater numbers, whatever the signs are.
func TestRounding(t *testing.T) {
	for _, x := range []struct{ a, b, down, up int }{
		{7, 2, 3, 4}, {-7, 2, -4, -3}, {7, -2, -4, -3}, {-7, -2, 3, 4}, {8, 2, 4, 4}, {-8, 2, -4, -4}, {8, -2, -4, -4}, {-8, -2, 4, 4},
		{1, 3, 0, 1}, {-1, 3, -1, 0}, {1, -3, -1, 0}, {-1, -3, 0, 1}, {0, 3, 0, 0}, {0, -3, 0, 0}, {2, 3, 0, 1}, {-2, 3, -1, 0},
		{most, 1, most, most}, {most, -1, -most, -most}, {-most, -1, most, most}, {1, most, 0, 1}, {-1, most, -1, 0}, {most - 1, most, 0, 1}, {1 - most, most, -1, 0}, {most, most, 1, 1}, {most, -most, -1, -1},
		{most, 7, 142857142857, 142857142858}, {-most, 7, -142857142858, -142857142857},
	} {
		expectPushed(t, x.down, push(x.a), push(x.b), api.Instr{Op: api.CoDiv})
		expectPushed(t, x.up, push(x.a), push(x.b), api.Instr{Op: api.CoUp})
	}
}

// P10.1: results that are no value, and divisions by 0.
func TestFailures(t *testing.T) {
	for _, x := range []struct{ op, a, last, next int }{
		{api.CoAdd, most - 5, 5, 6}, {api.CoAdd, 5 - most, -5, -6}, {api.CoAdd, most, -most, 1}, {api.CoAdd, most, 0, most}, {api.CoAdd, -most, 0, -most},
		{api.CoSub, most - 5, -5, -6}, {api.CoSub, 5 - most, 5, 6}, {api.CoSub, -most, -most, most}, {api.CoSub, most, most, -most},
		{api.CoMul, 1000000, 1000000, 1000001}, {api.CoMul, -1000000, 1000000, 1000001}, {api.CoMul, 1000000, -1000000, -1000001}, {api.CoMul, -1000000, -1000000, -1000001},
		{api.CoMul, most, 1, 2}, {api.CoMul, most, -1, -2}, {api.CoMul, -most, 1, -2}, {api.CoMul, most, 0, most}, {api.CoMul, 3, 333333333333, 333333333334}, {api.CoMul, -3, 333333333333, 333333333334},
		// The product fits into an int again if it is counted modulo 2^64.
		{api.CoMul, 1 << 32, 1, 1 << 32}, {api.CoMul, -1 << 32, 0, 1 << 32}, {api.CoMul, 1 << 32, -1, -1 << 32}, {api.CoMul, -1 << 32, -1, -1 << 32}, {api.CoMul, 1 << 39, 1, 1 << 39}, {api.CoMul, 1 << 39, 1, -1 << 39},
		{api.CoDiv, 5, 1, 0}, {api.CoDiv, 0, 1, 0}, {api.CoDiv, -most, -1, 0}, {api.CoUp, 5, 1, 0}, {api.CoUp, 0, -1, 0}, {api.CoUp, most, -1, 0},
	} {
		err := api.ErrRange
		if x.next == 0 {
			err = api.ErrZero
		}
		operation := api.Instr{Op: x.op}
		if _, got := machine.Run(someVars(), codeWith(0, push(x.a), push(x.last), operation, store(2)), []int{7, 0, 0, 0}, callOf(0)); got != api.OK {
			t.Errorf("%v: %v", x, got)
		}
		expectFailure(t, err, push(x.a), push(x.next), operation)
		// So it is if the number would be taken at once.
		expectFailure(t, err, push(4), store(1), push(x.a), push(x.next), operation)
	}
	expectPushed(t, 0, push(most), push(0), api.Instr{Op: api.CoMul})
	expectPushed(t, 0, push(0), push(most), api.Instr{Op: api.CoMul})
	expectPushed(t, -most, push(most), push(-most), api.Instr{Op: api.CoMin})
	expectPushed(t, most, push(most), push(-most), api.Instr{Op: api.CoMax})
}

// P10.1: what may be stored.
func TestStores(t *testing.T) {
	for i, v := range someVars() {
		low, high := max(v.Low, -most), min(v.High, most)
		for _, n := range []int{low, high, low + 1, high - 1} {
			want := []int{7, -2, 8, 9}
			want[i] = n
			expectRun(t, []int{7, -2, 8, 9}, outcome{want, api.OK, 2}, push(n), store(i))
		}
		for _, n := range []int{low - 1, high + 1} {
			if n == max(min(n, most), -most) {
				expectFailure(t, api.ErrOver, push(n), store(i))
				expectFailure(t, api.ErrOver, push(5), store(2), push(n), store(i))
			}
		}
	}
	for _, n := range []int{0, -7, 101, most, -most} {
		expectFailure(t, api.ErrOver, push(n), store(0))
	}
	// The topmost number is stored first, and the last number that is stored remains.
	expectRun(t, []int{7, -2, 8, 9}, outcome{[]int{3, 4, 8, 2}, api.OK, 8}, push(2), push(3), push(50), push(4), store(1), store(0), store(0), store(3))
}

// P10.1: CoUnless goes on with the next instruction exactly if the numbers are in the relation.
func TestRelations(t *testing.T) {
	for rel, holds := range map[int][3]bool{
		api.RelLess: {true, false, false}, api.RelAtMost: {true, true, false}, api.RelMore: {false, false, true}, api.RelAtLeast: {false, true, true}, api.RelEqual: {false, true, false}, api.RelOther: {true, false, true},
	} {
		for _, x := range []struct{ a, b, order int }{{3, 4, 0}, {4, 4, 1}, {5, 4, 2}, {-5, 4, 0}, {-4, -5, 2}, {-most, most, 0}, {most, most, 1}, {most, -most, 2}, {0, 0, 1}, {-1, 0, 0}} {
			want := outcome{[]int{7, -2, 8, 20}, api.OK, 5}
			if holds[x.order] {
				want = outcome{[]int{7, -2, 8, 10}, api.OK, 6}
			}
			expectRun(t, []int{7, -2, 8, 9}, want, push(x.a), push(x.b), unless(rel, 6), push(10), store(3), jump(8), push(20), store(3))
			// Both ways may be the same, or lead to the end.
			expectRun(t, []int{7, -2, 8, 9}, outcome{[]int{7, -2, 8, 10}, api.OK, 5}, push(x.a), push(x.b), unless(rel, 3), push(10), store(3))
			expectRun(t, []int{7, -2, 8, 9}, outcome{[]int{7, -2, 8, 9}, api.OK, 3}, push(x.a), push(x.b), unless(rel, 3))
		}
	}
}

// P10.1: jumps.
func TestJumps(t *testing.T) {
	state := []int{7, -2, 8, 9}
	expectRun(t, state, outcome{state, api.OK, 1}, jump(1))
	expectRun(t, state, outcome{state, api.OK, 3}, jump(1), jump(2), jump(3))
	expectRun(t, state, outcome{[]int{4, -2, 8, 9}, api.OK, 3}, push(4), jump(2), store(0))
	// A number stays on the stack over a jump.
	over := func(rel int) []api.Instr {
		return []api.Instr{push(6), push(1), push(1), unless(rel, 5), jump(8), push(5), {Op: api.CoMin}, jump(8), store(0)}
	}
	expectRun(t, state, outcome{[]int{6, -2, 8, 9}, api.OK, 6}, over(api.RelEqual)...)
	expectRun(t, state, outcome{[]int{5, -2, 8, 9}, api.OK, 8}, over(api.RelOther)...)
}

// P10.1: the numbers of a full stack come back in the opposite order.
func TestFullStack(t *testing.T) {
	state := []int{7, -2, 8, 9}
	var list []api.Instr
	for n := range 64 {
		list = append(list, push(n))
	}
	// Each of the numbers from 63 to 1 is looked at with the result of those above it: n less it.
	want := 63
	for n := 62; n >= 0; n-- {
		list, want = append(list, api.Instr{Op: api.CoSub}), n-want
	}
	expectRun(t, state, outcome{[]int{7, -2, want, 9}, api.OK, 128}, append(list, store(2))...)
	for n := range 64 {
		list = slices.Concat(list[:64], slices.Repeat([]api.Instr{store(3)}, 63-n), []api.Instr{store(2)}, slices.Repeat([]api.Instr{store(3)}, n))
		last := 0
		if n == 0 {
			last = 1
		}
		expectRun(t, state, outcome{[]int{7, -2, n, last}, api.OK, 128}, list...)
	}
}

// P10.1: the longest handlers.
func TestLongHandlers(t *testing.T) {
	state := []int{7, -2, 0, 9}
	list := slices.Repeat([]api.Instr{load(2), push(1), {Op: api.CoAdd}, store(2)}, 1000)
	expectRun(t, state, outcome{[]int{7, -2, 1000, 9}, api.OK, 4000}, list...)
	expectRun(t, state, outcome{nil, api.ErrArg, 0}, append(list, jump(4001))...)
	list[3998] = api.Instr{Op: api.CoDiv}
	list[3997] = push(0)
	expectRun(t, state, outcome{nil, api.ErrZero, 3999}, list...)
	list[3997], list[3999] = push(1), store(0)
	expectRun(t, state, outcome{nil, api.ErrArg, 0}, slices.Concat(list[:3999], list[3998:])...)
	expectRun(t, state, outcome{nil, api.ErrOver, 4000}, list...)
}

// P10.1: no variables, and as many as possible.
func TestVariables(t *testing.T) {
	for event := range api.Events {
		if got := outcomeOf(t, nil, codeWith(event, push(1), take(2), unless(1, 3)), nil, callOf(event)); !got.equals(outcome{nil, api.OK, 3}) {
			t.Errorf("%d: %v", event, got)
		}
		if got := outcomeOf(t, nil, codeWith(event, push(1), store(0)), nil, callOf(event)); !got.equals(outcome{nil, api.ErrArg, 0}) {
			t.Errorf("%d: %v", event, got)
		}
		for count := 1; count <= api.MaxVars+1; count++ {
			vars, state := make([]api.Var, count), make([]int, count)
			vars[count-1].High = 9
			want := outcome{slices.Concat(state[1:], []int{9}), api.OK, 2}
			if count > api.MaxVars {
				want = outcome{nil, api.ErrArg, 0}
			}
			if got := outcomeOf(t, vars, codeWith(event, push(9), store(count-1)), state, callOf(event)); !got.equals(want) {
				t.Errorf("%d, %d: %v", event, count, got)
			}
			if got := outcomeOf(t, vars, codeWith(event, push(9), store(count)), state, callOf(event)); !got.equals(outcome{nil, api.ErrArg, 0}) {
				t.Errorf("%d, %d: %v", event, count, got)
			}
		}
	}
}

// good returns arguments that are right, and for an event with right inputs leads to a failure or to none.
func good(event int, fails bool) (vars []api.Var, c api.Code, state []int, call api.Call) {
	by := 2
	if fails {
		by = 0
	}
	return someVars(), codeWith(event, load(0), push(by), api.Instr{Op: api.CoDiv}, store(0)), []int{7, -2, 8, 9}, callOf(event)
}

// expectRefused expects ErrArg for changed arguments, also if the code would fail.
func expectRefused(t *testing.T, name string, change func(vars []api.Var, c *api.Code, state *[]int, call *api.Call)) {
	t.Helper()
	for event := range api.Events {
		for _, fails := range []bool{false, true} {
			vars, c, state, call := good(event, fails)
			if got := outcomeOf(t, vars, c, state, call); got.err == api.ErrArg || fails != (got.err == api.ErrZero) {
				t.Fatal(got)
			}
			change(vars, &c, &state, &call)
			if got := outcomeOf(t, vars, c, state, call); !got.equals(outcome{nil, api.ErrArg, 0}) {
				t.Errorf("%s, %d: %v", name, event, got)
			}
		}
	}
}

// P10.1: states and what is none.
func TestStates(t *testing.T) {
	refuse := func(wrong ...int) {
		t.Helper()
		expectRefused(t, brief(wrong), func(_ []api.Var, _ *api.Code, state *[]int, _ *api.Call) { *state = wrong })
	}
	refuse()
	refuse(7)
	refuse(7, -2, 8)
	refuse(7, -2, 8, 9, 0)
	for i, v := range someVars() {
		for _, n := range []int{v.Low, v.High, 3} {
			vars, c, state, call := good(0, true)
			state[i] = max(min(n, most), -most)
			if got := outcomeOf(t, vars, c, state, call); got.err != api.ErrZero {
				t.Errorf("%v: %v", state, got)
			}
		}
		for _, n := range []int{max(v.Low, -most) - 1, min(v.High, most) + 1, math.MinInt, math.MaxInt} {
			_, _, state, _ := good(0, true)
			state[i] = n
			refuse(state...)
		}
	}
	for _, ends := range [][2]int{{8, 9}, {9, 7}, {5, 6}, {math.MaxInt, math.MinInt}} {
		expectRefused(t, brief(ends), func(vars []api.Var, _ *api.Code, _ *[]int, _ *api.Call) { vars[0].Low, vars[0].High = ends[0], ends[1] })
	}
}

// P10.1: calls and what is none, also if the code does not use an input.
func TestCalls(t *testing.T) {
	for _, event := range []int{-1, 5, 6, math.MinInt, math.MaxInt} {
		expectRefused(t, brief(event), func(_ []api.Var, _ *api.Code, _ *[]int, call *api.Call) { call.Event = event })
	}
	for i, ends := range [][2]int{{1, 1000}, {1, 10000000}, {1, 10000}, {0, 4000}} {
		for _, n := range []int{ends[0], ends[1]} {
			vars, c, state, call := good(3, false)
			call.In[i] = n
			if got := outcomeOf(t, vars, c, state, call); !got.equals(outcome{[]int{3, -2, 8, 9}, api.OK, 4}) {
				t.Errorf("%v: %v", call, got)
			}
			c.On[3] = []api.Instr{take(i), store(2)}
			if got := outcomeOf(t, vars, c, state, call); !got.equals(outcome{[]int{7, -2, n, 9}, api.OK, 2}) {
				t.Errorf("%v: %v", call, got)
			}
		}
		for _, n := range []int{ends[0] - 1, ends[1] + 1, math.MinInt, math.MaxInt} {
			expectRefused(t, brief(n), func(_ []api.Var, _ *api.Code, _ *[]int, call *api.Call) { call.In[i] = n })
		}
	}
}

// P10.1: code that is not valid, in whichever handler, and after whatever would end the run.
func TestWrongCode(t *testing.T) {
	for _, list := range [][]api.Instr{
		{push(1)}, {store(0)}, {{Op: api.CoAdd}}, {push(1), {Op: api.CoAdd}, store(0)}, {{}}, {{Op: 14}}, {{Op: -1}}, {push(1), store(4)}, {load(4), store(0)}, {load(-1), store(0)}, {take(4), store(0)}, {take(-1), store(0)}, {push(most + 1), store(0)}, {push(-most - 1), store(0)},
		{jump(0)}, {jump(2)}, {jump(-1)}, {push(1), push(1), unless(0, 3)}, {push(1), push(1), unless(7, 3)}, {push(1), push(1), unless(1, 2)}, {push(1), push(1), unless(1, 4)}, {jump(2), jump(2)}, {push(1), jump(3), jump(3), store(0)}, {{Op: api.CoJump, N: 1, Rel: 1}}, {push(1), push(1), {Op: api.CoAdd, N: 1}, store(0)},
		append(slices.Repeat([]api.Instr{push(1)}, 65), slices.Repeat([]api.Instr{store(2)}, 65)...),
	} {
		for event := range api.Events {
			expectRefused(t, brief(list), func(_ []api.Var, c *api.Code, _ *[]int, _ *api.Call) { c.On[event] = joined(c.On[event], list) })
			expectRefused(t, brief(list), func(_ []api.Var, c *api.Code, _ *[]int, _ *api.Call) { c.On[event] = joined(list, c.On[event]) })
		}
	}
}

// Rules: arguments stay as they are, and a result is a list of its own.
func TestArgumentsStay(t *testing.T) {
	for m := range makers(3, 1000, anyVars) {
		vars, state, c, call := slices.Clone(m.vars), m.state(), m.code(), m.call()
		given, list := slices.Clone(state), slices.Clone(c.On[call.Event])
		after, err := machine.Run(m.vars, c, state, call)
		kept := slices.Clone(after)
		again, _ := machine.Run(m.vars, c, state, call)
		for i := range again {
			again[i]++
		}
		machine.Steps(m.vars, c, state, call)
		if !slices.Equal(state, given) || !slices.Equal(m.vars, vars) || !slices.Equal(c.On[call.Event], list) {
			t.Fatalf("%v: %v, %v", list, given, state)
		}
		if !slices.Equal(after, kept) || err == api.OK && &after[0] == &state[0] {
			t.Fatalf("%v: %v shares its memory", list, after)
		}
	}
}
