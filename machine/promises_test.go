package machine_test

import (
	"slices"
	"testing"

	"queuelab/api"
	"queuelab/code"
	"queuelab/control"
	"queuelab/machine"
	"queuelab/meaning"
	"queuelab/parser"
)

// programOf returns the only program of a source, and its code.
func programOf(t *testing.T, source string) (api.Program, api.Code) {
	t.Helper()
	n, diags := parser.Parse(source)
	if len(diags) > 0 {
		t.Fatalf("%s: %v", source, diags)
	}
	programs, diags := control.Build(n)
	if len(programs) != 1 {
		t.Fatalf("%s: %v", source, diags)
	}
	return programs[0], mustCompile(t, programs[0])
}

// mustCompile returns the code of a program, which must have some.
func mustCompile(t *testing.T, p api.Program) api.Code {
	t.Helper()
	c, err := code.Compile(p)
	if err != api.OK {
		t.Fatalf("%s: %v", brief(p), err)
	}
	return c
}

// expectMeaning compares the code of a program with its meaning, and returns the error of both.
func expectMeaning(t *testing.T, p api.Program, c api.Code, state []int, call api.Call) api.Errno {
	t.Helper()
	want, err := meaning.Run(p, state, call)
	if got := outcomeOf(t, p.Vars, c, state, call); !slices.Equal(got.state, want) || got.err != err {
		t.Fatalf("%s, %v, %v: %v; want %v, %v", brief(p), state, call, got, want, err)
	}
	return err
}

// P10.2.
func TestMeaning(t *testing.T) {
	count := map[api.Errno]int{}
	for m := range makers(10, 3000, programVars) {
		p := m.program()
		c := mustCompile(t, p)
		for range 10 {
			count[expectMeaning(t, p, c, m.state(), m.call())]++
		}
	}
	if count[api.OK] < 10000 || count[api.ErrOver] < 1000 || count[api.ErrZero] < 500 || count[api.ErrRange] < 250 || count[api.ErrArg] > 0 {
		t.Errorf("%v", count)
	}
}

// P10.2: states and calls that are none are refused by both.
func TestMeaningOfWrongArguments(t *testing.T) {
	count := map[api.Errno]int{}
	for m := range makers(11, 3000, programVars) {
		p := m.program()
		state, call := m.state(), m.call()
		switch i := m.Intn(len(state)); m.Intn(4) {
		case 0:
			state[i] = pick(m, m.vars[i].Low-1, m.vars[i].High+1, m.vars[i].Low)
		case 1:
			state = state[:i]
		case 2:
			call.In[m.Intn(api.Inputs)] = pick(m, -1, 0, 1001, 4001, 10001, 10000001)
		case 3:
			call.Event = pick(m, -1, 5)
		}
		count[expectMeaning(t, p, mustCompile(t, p), state, call)]++
	}
	if count[api.ErrArg] < 1500 || count[api.OK] < 200 {
		t.Errorf("%v", count)
	}
}

// P10.2: all states of a program in which each of them matters, with every error.
func TestMeaningOfAllStates(t *testing.T) {
	p, c := programOf(t, `program c { var w packets 0 6 2; var v packets 0 5 1; var n none 0 1000000000 999999999;
		on ack { if w < v { w = min(w + acked, 6 packets); } else { if w == v { v = w - 1 packets; } else { w = w - v; } n = n / (w / (1 packets)); } }
		on loss { w = up(w * 3, 2); if w >= 4 packets { v = v - 1 packets; } }
		on mark { if n * n * 1000 != 0 { w = v; v = w; } }
		on timeout { n = max(0, n + 1 - w / v); w = w; }
		window w; }`)
	count := map[api.Errno]int{}
	for w := 0; w <= 6; w++ {
		for v := 0; v <= 5; v++ {
			for _, n := range []int{0, 1, 2, 31623, 31622, 999999999, 1000000000} {
				for event := range api.Events {
					count[expectMeaning(t, p, c, []int{w, v, n}, callOf(event))]++
				}
			}
		}
	}
	for _, err := range []api.Errno{api.OK, api.ErrOver, api.ErrZero, api.ErrRange} {
		if count[err] < 20 {
			t.Errorf("%v", count)
		}
	}
}

// P10.2: from the first state on, call by call.
func TestMeaningOfLongRuns(t *testing.T) {
	for m := range makers(12, 500, programVars) {
		p := m.program()
		c := mustCompile(t, p)
		state, err := meaning.Start(p)
		for i := 0; i < 40 && err == api.OK; i++ {
			call := m.call()
			if err = expectMeaning(t, p, c, state, call); err == api.OK {
				state, err = machine.Run(p.Vars, c, state, call)
			}
		}
		if err == api.ErrArg {
			t.Fatalf("%s: %v", brief(p), state)
		}
	}
}

// P10.3 and P10.4.
func TestStatesAndSteps(t *testing.T) {
	ended, kept, empty := 0, 0, 0
	for m := range makers(13, 6000, anyVars) {
		c, state, call := m.code(), m.state(), m.call()
		list := c.On[call.Event]
		got := outcomeOf(t, m.vars, c, state, call)
		if got.steps > len(list) || got.steps < min(len(list), 1) {
			t.Fatalf("%v: %d instructions", list, got.steps)
		}
		if len(list) == 0 {
			empty++
		}
		if got.err != api.OK {
			continue
		}
		ended++
		if len(got.state) != len(state) {
			t.Fatalf("%v: %v", list, got.state)
		}
		for i, n := range got.state {
			if n < m.vars[i].Low || n > m.vars[i].High || n < -most || n > most {
				t.Fatalf("%v: %v is no state of %v", list, got.state, m.vars)
			}
			if !slices.Contains(list, store(i)) {
				kept++
				if n != state[i] {
					t.Fatalf("%v: %v after %v", list, got.state, state)
				}
			}
		}
	}
	if ended < 1000 || kept < 2000 || empty < 20 {
		t.Errorf("%d, %d, %d", ended, kept, empty)
	}
}

// P10.5.
func TestParts(t *testing.T) {
	count := map[[2]api.Errno]int{}
	for m := range makers(14, 10000, anyVars) {
		first, second := m.handler(), m.handler()
		state, call := m.state(), m.call()
		with := func(list []api.Instr) api.Code { return codeWith(call.Event, list...) }
		one := outcomeOf(t, m.vars, with(first), state, call)
		want := one
		if one.err == api.OK {
			want = outcomeOf(t, m.vars, with(second), one.state, call)
			want.steps += one.steps
		}
		count[[2]api.Errno{one.err, want.err}]++
		if got := outcomeOf(t, m.vars, with(joined(first, second)), state, call); !got.equals(want) {
			t.Fatalf("%v, %v, %v: %v; want %v", first, second, state, got, want)
		}
	}
	for _, errors := range [][2]api.Errno{{api.OK, api.OK}, {api.OK, api.ErrOver}, {api.OK, api.ErrZero}, {api.OK, api.ErrRange}, {api.ErrOver, api.ErrOver}, {api.ErrZero, api.ErrZero}, {api.ErrRange, api.ErrRange}} {
		if count[errors] < 100 {
			t.Errorf("%v", count)
		}
	}
}

// P10.6.
func TestOtherHandlers(t *testing.T) {
	count := map[api.Errno]int{}
	for m := range makers(15, 3000, anyVars) {
		c, state, call := m.code(), m.state(), m.call()
		want := outcomeOf(t, m.vars, c, state, call)
		other := m.code()
		other.On[call.Event] = c.On[call.Event]
		for _, changed := range []api.Code{other, codeWith(call.Event, c.On[call.Event]...)} {
			if got := outcomeOf(t, m.vars, changed, state, call); !got.equals(want) {
				t.Fatalf("%v, %v: %v; want %v", c.On[call.Event], state, got, want)
			}
		}
		count[want.err]++
	}
	if count[api.OK] < 1000 || len(count) != 4 {
		t.Errorf("%v", count)
	}
}

// P10.7.
func TestSkipping(t *testing.T) {
	count := map[api.Errno]int{}
	for m := range makers(16, 5000, anyVars) {
		list, state, call := m.handler(), m.state(), m.call()
		want := outcomeOf(t, m.vars, codeWith(call.Event, list...), state, call)
		count[want.err]++
		want.steps += 3
		x := pick(m, push(0), push(m.Intn(100)), push(most), push(-most), load(m.Intn(len(m.vars))), take(m.Intn(4)))
		for rel := 1; rel <= 6; rel++ {
			if got := outcomeOf(t, m.vars, codeWith(call.Event, joined([]api.Instr{x, x, unless(rel, 3)}, list)...), state, call); !got.equals(want) {
				t.Fatalf("%v, %v, %d, %v: %v; want %v", list, x, rel, state, got, want)
			}
		}
	}
	if count[api.OK] < 1000 || len(count) != 4 {
		t.Errorf("%v", count)
	}
}
