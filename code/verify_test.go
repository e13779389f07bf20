package code_test

import (
	"math"
	"slices"
	"testing"

	"queuelab/api"
	"queuelab/code"
)

// codeWith returns code with one handler that is not empty.
func codeWith(event int, list ...api.Instr) api.Code {
	var c api.Code
	c.On[event] = list
	return c
}

// expectVerified checks whether code of a handler is valid for three variables, whatever its event is.
func expectVerified(t *testing.T, want bool, list ...api.Instr) {
	t.Helper()
	for event := range api.Events {
		c := codeWith(event, list...)
		if code.Verify(c, 3) != want {
			t.Errorf("%d: %s: want %v", event, brief(list), want)
		}
		// Other handlers do not matter if they are valid.
		for other := range c.On {
			if other != event {
				c.On[other] = []api.Instr{push(1), store(2)}
			}
		}
		if code.Verify(c, 3) != want {
			t.Errorf("%d: %s, and others: want %v", event, brief(list), want)
		}
	}
}

// P9.1: I2, how many variables there are.
func TestVars(t *testing.T) {
	for vars := -3; vars < 16; vars++ {
		if got := code.Verify(api.Code{}, vars); got != (0 <= vars && vars <= 12) {
			t.Errorf("%d: %v", vars, got)
		}
		for n := -2; n < 16; n++ {
			want := 0 <= n && n < vars && vars <= 12
			for event := range api.Events {
				if got := code.Verify(codeWith(event, read(n), store(0)), vars); got != want {
					t.Errorf("CoVar %d of %d: %v", n, vars, got)
				}
				if got := code.Verify(codeWith(event, push(0), store(n)), vars); got != want {
					t.Errorf("CoStore %d of %d: %v", n, vars, got)
				}
			}
		}
	}
	for _, vars := range []int{math.MinInt, math.MaxInt, -most} {
		if code.Verify(api.Code{}, vars) || code.Verify(codeWith(0, read(0), store(0)), vars) {
			t.Errorf("%d", vars)
		}
	}
	// Code that needs no variables.
	if !code.Verify(codeWith(2, push(0), take(1), unless(1, 3)), 0) {
		t.Errorf("no variables")
	}
}

// right returns valid code with an instruction of an operation, and the index of this one.
func right(op int) ([]api.Instr, int) {
	switch op {
	case api.CoPush, api.CoVar, api.CoInput:
		return []api.Instr{do(op), store(0)}, 0
	case api.CoStore:
		return []api.Instr{push(0), do(op)}, 1
	case api.CoUnless:
		return []api.Instr{push(0), push(0), unless(3, 5), push(0), store(0)}, 2
	case api.CoJump:
		return []api.Instr{push(0), push(0), unless(3, 4), jump(6), push(0), store(0), push(0), store(0)}, 3
	}
	return []api.Instr{push(0), push(0), do(op), store(0)}, 2
}

// P9.1: I2, numbers and relations of all operations.
func TestTable(t *testing.T) {
	numbers := []int{-1, 0, 1, 2, 3, 4, 5, 6, 7, 8, 9, most - 1, most, most + 1, 1 - most, -most, -most - 1, math.MinInt, math.MaxInt}
	for op := range api.CoJump {
		op++
		list, at := right(op)
		expectVerified(t, true, list...)
		accepted := 0
		for _, n := range numbers {
			for _, rel := range []int{-1, 0, 1, 2, 3, 4, 5, 6, 7, 8, math.MinInt, math.MaxInt} {
				changed := slices.Clone(list)
				changed[at].N, changed[at].Rel = n, rel
				want := isValid(changed, 3)
				expectVerified(t, want, changed...)
				if want {
					accepted++
				}
			}
		}
		// So many are right: numbers times relations.
		want := map[int]int{api.CoPush: 15, api.CoVar: 3, api.CoInput: 4, api.CoStore: 3, api.CoUnless: 6 * 2, api.CoJump: 3}[op]
		if want == 0 {
			want = 1
		}
		if accepted != want {
			t.Errorf("%d: %d are accepted", op, accepted)
		}
	}
	for _, op := range []int{math.MinInt, -1, 0, 14, 15, 100, math.MaxInt} {
		for _, list := range [][]api.Instr{{do(op)}, {push(0), push(0), do(op), store(0)}, {do(op), store(0)}, {push(0), do(op)}, {unless(1, 2), do(op)}} {
			expectVerified(t, false, list...)
		}
	}
}

// P9.1: I2, where indices lead to.
func TestIndices(t *testing.T) {
	expectVerified(t, true)
	expectVerified(t, true, jump(1))
	expectVerified(t, true, jump(1), jump(2), jump(3))
	for _, n := range []int{-1, 0, 2, 3, math.MaxInt, math.MinInt} {
		expectVerified(t, false, jump(n))
	}
	expectVerified(t, true, push(1), push(2), unless(1, 3))
	for _, n := range []int{-1, 0, 1, 2, 4, math.MaxInt, math.MinInt} {
		expectVerified(t, false, push(1), push(2), unless(1, n))
	}
	// Back, but neither before the beginning nor behind the end.
	expectVerified(t, false, push(1), store(0), jump(0))
	expectVerified(t, false, push(1), store(0), jump(2))
	expectVerified(t, false, push(1), store(0), push(1), push(1), unless(2, 2))
	expectVerified(t, false, push(1), store(0), push(1), push(1), unless(2, 0))
}

// P9.1: I2, each instruction has a height.
func TestReached(t *testing.T) {
	expectVerified(t, false, jump(3), push(1), store(0))
	expectVerified(t, false, jump(2), jump(2))
	expectVerified(t, false, jump(2), jump(3), jump(3))
	expectVerified(t, false, push(1), jump(3), push(1), store(0))
	expectVerified(t, true, push(1), push(2), unless(1, 4), jump(4))
	expectVerified(t, true, push(1), push(2), unless(1, 4), jump(5), jump(5))
	expectVerified(t, false, push(1), push(2), unless(1, 5), jump(5), jump(5))
	// Only by what is not reached itself.
	expectVerified(t, false, jump(3), jump(2), jump(3))
	expectVerified(t, false, jump(4), push(1), push(1), unless(1, 4))
}

// P9.1: I2, the same height by all ways.
func TestSameHeight(t *testing.T) {
	fork := []api.Instr{push(1), push(2), unless(1, 5)}
	expectVerified(t, true, append(fork, push(1), jump(6), push(2), store(0))...)
	expectVerified(t, false, append(fork, push(1), jump(6), jump(6), store(0))...)
	expectVerified(t, false, append(fork, jump(5), push(1), store(0), push(1), store(0))[:7]...)
	expectVerified(t, true, push(9), push(1), push(2), unless(1, 6), store(0), jump(7), store(1))
	expectVerified(t, false, push(9), push(1), push(2), unless(1, 6), store(0), jump(6), store(1))
	expectVerified(t, true, push(9), push(1), push(2), unless(1, 6), push(3), do(api.CoAdd), store(1))
	expectVerified(t, false, push(9), push(1), push(2), unless(1, 5), push(3), do(api.CoAdd), store(1))
	// The end, by two ways.
	expectVerified(t, true, push(1), push(2), unless(1, 5), push(3), store(0))
	expectVerified(t, false, push(1), push(2), unless(1, 4), push(3), store(0))
	expectVerified(t, false, push(1), push(1), push(2), unless(1, 5), store(0))
	// Three ways that meet.
	three := []api.Instr{push(1), push(2), unless(1, 5), push(0), jump(10), push(1), push(2), unless(1, 9), jump(10), push(3), store(0)}
	expectVerified(t, false, three...)
	three = []api.Instr{push(1), push(2), unless(1, 5), push(0), jump(11), push(1), push(2), unless(1, 10), push(0), jump(11), push(3), store(0)}
	expectVerified(t, true, three...)
}

// P9.1: I2, what instructions take, with too few numbers on the stack.
func TestTakes(t *testing.T) {
	for op := range api.CoJump {
		op++
		takes, puts, _, _, _, _ := row(op, 0, 0, 1)
		for height := range 4 {
			list := slices.Repeat([]api.Instr{push(1)}, height)
			x := do(op)
			if op == api.CoUnless || op == api.CoJump {
				x.N = height + 1
			}
			if op == api.CoUnless {
				x.Rel = 1
			}
			list = append(list, x)
			list = append(list, slices.Repeat([]api.Instr{store(0)}, max(height-takes+puts, 0))...)
			expectVerified(t, height >= takes, list...)
		}
	}
	// By the way that leads to it.
	expectVerified(t, false, push(1), push(2), unless(1, 5), push(1), store(0), store(1), push(1))
}

// P9.1: I2, the end has the height 0.
func TestEnd(t *testing.T) {
	for height := range 5 {
		list := slices.Repeat([]api.Instr{push(1)}, 2+height)
		expectVerified(t, height == 0, append(slices.Clone(list), unless(2, 3+height))...)
		expectVerified(t, height == 0, append(slices.Clone(list), store(0), store(0))...)
		expectVerified(t, false, append(slices.Clone(list), jump(3+height))...)
	}
}

// P9.1: I2, the greatest height.
func TestHeights(t *testing.T) {
	for height := range 70 {
		list := append(slices.Repeat([]api.Instr{push(1)}, height), slices.Repeat([]api.Instr{store(0)}, height)...)
		expectVerified(t, height <= 64, list...)
		list = slices.Repeat([]api.Instr{read(0)}, height)
		if height > 0 {
			list = append(append(list, slices.Repeat([]api.Instr{do(api.CoMul)}, height-1)...), store(0))
		}
		expectVerified(t, height <= 64, list...)
		// Only one of two ways is so high.
		list = slices.Concat([]api.Instr{push(1), push(1), unless(1, 3+2*height)}, slices.Repeat([]api.Instr{take(0)}, height), slices.Repeat([]api.Instr{store(0)}, height))
		expectVerified(t, height <= 64, list...)
	}
}

// P9.1: I2, the most instructions, in each handler.
func TestLength(t *testing.T) {
	two := []api.Instr{push(1), store(0)}
	for length := 3998; length <= 4003; length++ {
		list := slices.Repeat(two, length/2)
		if length%2 > 0 {
			list = append(list, jump(length))
		}
		expectVerified(t, length <= 4000, list...)
	}
	// What is wrong may be the last one.
	list := slices.Repeat(two, 2000)
	list[3999].N = 3
	expectVerified(t, false, list...)
	list[3999] = jump(4000)
	expectVerified(t, false, list...)
	expectVerified(t, false, slices.Repeat(two, 100000)...)
	var c api.Code
	for event := range c.On {
		c.On[event] = slices.Repeat(two, 2000)
	}
	if !code.Verify(c, 1) {
		t.Errorf("long code of all handlers")
	}
}

// expectReference checks Verify of a handler, and reports whether it is valid.
func expectReference(t *testing.T, event, vars int, list []api.Instr) bool {
	t.Helper()
	want := isValid(list, vars)
	if got := code.Verify(codeWith(event, list...), vars); got != want {
		t.Fatalf("%v, %d variables: %v; want %v", list, vars, got, want)
	}
	return want
}

// P9.1: I2, for all short code of some instructions.
func TestVerifyIsTheReferenceForShortCode(t *testing.T) {
	valid, all := 0, 0
	var extend func(list []api.Instr, length int)
	extend = func(list []api.Instr, length int) {
		if len(list) == length {
			all++
			if expectReference(t, all%api.Events, 1, list) {
				valid++
			}
			return
		}
		for _, x := range []api.Instr{push(1), do(api.CoSub), store(0)} {
			extend(append(list, x), length)
		}
		// Short code has all indices, also wrong ones.
		first, last := len(list)+1, length
		if length < 5 {
			first, last = 0, length+1
		}
		for n := first; n <= last; n++ {
			extend(append(list, unless(1+n%6, n)), length)
			extend(append(list, jump(n)), length)
		}
	}
	for length := range 7 {
		extend(nil, length)
	}
	if valid < 250 || all < 700000 {
		t.Errorf("%d of %d are valid", valid, all)
	}
}

// P9.1: I2, for much code that is right, or changed.
func TestVerifyIsTheReference(t *testing.T) {
	count := map[bool]int{}
	for m := range makers(2, 20000) {
		list := m.handler()
		if !expectReference(t, m.Intn(api.Events), len(m.vars), list) {
			t.Fatalf("%v is not right", list)
		}
		for range 5 {
			list = m.changed(list)
			if len(list) == 0 {
				break
			}
			count[expectReference(t, m.Intn(api.Events), len(m.vars), list)]++
		}
	}
	if count[true] < 5000 || count[false] < 5000 {
		t.Errorf("%v", count)
	}
}

// P9.1: I2, one wrong handler is enough, and it does not matter which one.
func TestAllHandlersAreVerified(t *testing.T) {
	count := map[bool]int{}
	for m := range makers(3, 5000) {
		var c api.Code
		want := true
		for event := range c.On {
			c.On[event] = m.handler()
			if m.Intn(6) == 0 {
				c.On[event] = m.changed(c.On[event])
			}
			want = want && isValid(c.On[event], len(m.vars))
		}
		if code.Verify(c, len(m.vars)) != want {
			t.Fatalf("%v: want %v", c, want)
		}
		count[want]++
	}
	if count[true] < 1000 || count[false] < 1000 {
		t.Errorf("%v", count)
	}
}
