package code_test

import (
	"slices"
	"testing"

	"queuelab/api"
	"queuelab/code"
)

// P9.2.
func TestCompiledCodeIsValid(t *testing.T) {
	high := 0
	for m := range makers(10, 3000) {
		p := m.program()
		c := mustCompile(t, p)
		if !code.Verify(c, len(p.Vars)) {
			t.Fatalf("%s: %v", brief(p), c)
		}
		for _, list := range c.On {
			for _, set := range heightsOf(list) {
				for height := range set {
					high = max(high, height)
				}
			}
		}
	}
	if high < 5 {
		t.Errorf("no code is higher than %d", high)
	}
}

// P9.2: expressions whose code is as high as possible.
func TestHighExpressions(t *testing.T) {
	high := plain(1)
	for range 29 {
		high = node(api.ExAdd, plain(1), high)
	}
	list := []api.Stmt{{Kind: api.StAssign, Var: 2, A: high}, {Kind: api.StIf, Rel: api.RelLess, A: high, B: high}}
	for event := range api.Events {
		c := mustCompile(t, with(t, event, list...))
		if !code.Verify(c, 4) || len(c.On[event]) != 2*60+59 {
			t.Errorf("%d: %v", event, c)
		}
	}
}

// walk runs code by a way that a function chooses at each CoUnless, and returns how many instructions it ran; it counts the numbers on the stack, and reports whether there are always as many as there must be.
func walk(list []api.Instr, jumps func() bool) (steps int, right bool) {
	stack := 0
	for at := 0; at < len(list); steps++ {
		x := list[at]
		takes, puts, _, _, _, _ := row(x.Op, 0, 0, 1)
		if stack < takes || steps == len(list) {
			return steps, false
		}
		stack += puts - takes
		if stack > 64 {
			return steps, false
		}
		at++
		if x.Op == api.CoJump || x.Op == api.CoUnless && jumps() {
			at = x.N
		}
	}
	return steps, stack == 0
}

// P9.3.
func TestRuns(t *testing.T) {
	count := map[bool]int{}
	shorter := 0
	for m := range makers(11, 10000) {
		list := m.handler()
		if m.Intn(3) == 0 {
			list = mustCompile(t, m.program()).On[m.Intn(api.Events)]
		}
		if m.Intn(2) == 0 && len(list) > 0 {
			list = m.changed(list)
		}
		valid := code.Verify(codeWith(0, list...), len(m.vars))
		count[valid]++
		for range 20 {
			if !valid {
				break
			}
			steps, right := walk(list, func() bool { return m.Intn(2) == 0 })
			if !right || steps > len(list) {
				t.Fatalf("%v: after %d instructions", list, steps)
			}
			if steps < len(list) {
				shorter++
			}
		}
	}
	if count[true] < 2000 || count[false] < 2000 || shorter < 20000 {
		t.Errorf("%v, %d", count, shorter)
	}
}

// P9.3: all ways of short code.
func TestAllRuns(t *testing.T) {
	for m := range makers(12, 5000) {
		list := joined(m.piece(0, 3, 1), m.piece(3, 0, 1))
		if !code.Verify(codeWith(1, list...), len(m.vars)) {
			t.Fatalf("%v", list)
		}
		for choices := range 1 << 6 {
			rest := choices
			steps, right := walk(list, func() bool {
				jumps := rest%2 == 1
				rest /= 2
				return jumps
			})
			if !right || steps > len(list) {
				t.Fatalf("%v: after %d instructions", list, steps)
			}
		}
	}
}

// instrsOf returns how many instructions P9.4 counts, and of which kind they are.
func instrsOf(list []api.Stmt) map[int]int {
	count := map[int]int{}
	var expr func(e api.Expr)
	expr = func(e api.Expr) {
		names := map[int]int{api.ExNumber: api.CoPush, api.ExVar: api.CoVar, api.ExInput: api.CoInput, api.ExAdd: api.CoAdd, api.ExSub: api.CoSub, api.ExMul: api.CoMul, api.ExDiv: api.CoDiv, api.ExUp: api.CoUp, api.ExMin: api.CoMin, api.ExMax: api.CoMax}
		count[names[e.Op]]++
		for _, kid := range e.Kids {
			expr(kid)
		}
	}
	for _, s := range list {
		expr(s.A)
		if s.Kind == api.StAssign {
			count[api.CoStore]++
			continue
		}
		expr(s.B)
		count[api.CoUnless]++
		count[api.CoJump] += min(len(s.Else), 1)
		for op, n := range instrsOf(slices.Concat(s.Then, s.Else)) {
			count[op] += n
		}
	}
	return count
}

// P9.4.
func TestSizes(t *testing.T) {
	total := map[int]int{}
	for m := range makers(13, 1500) {
		p := m.program()
		for event, list := range mustCompile(t, p).On {
			want, all := instrsOf(p.On[event]), 0
			for _, x := range list {
				want[x.Op]--
			}
			for op, n := range want {
				if n != 0 {
					t.Fatalf("%s: the operation %d: %d are missing", brief(p.On[event]), op, n)
				}
			}
			for op, n := range instrsOf(p.On[event]) {
				total[op] += n
				all += n
			}
			if len(list) != all {
				t.Fatalf("%s: %d instructions; want %d", brief(p.On[event]), len(list), all)
			}
		}
	}
	for op := range api.CoJump {
		if total[op+1] < 250 {
			t.Errorf("%v", total)
		}
	}
}

// P9.5.
func TestParts(t *testing.T) {
	moved := 0
	for m := range makers(14, 1500) {
		p := m.program()
		c := mustCompile(t, p)
		for first := range p.On {
			second := m.Intn(api.Events)
			both := p
			both.On[first] = slices.Concat(p.On[first], p.On[second])
			got, want := mustCompile(t, both).On[first], joined(c.On[first], c.On[second])
			if !slices.Equal(got, want) {
				t.Fatalf("%s, and %s: %v; want %v", brief(p.On[first]), brief(p.On[second]), got, want)
			}
			if !slices.Equal(want, slices.Concat(c.On[first], c.On[second])) {
				moved++
			}
		}
	}
	if moved < 1500 {
		t.Errorf("%d with indices", moved)
	}
}

// P9.6.
func TestHandlers(t *testing.T) {
	for m := range makers(15, 1000) {
		p, other := m.program(), m.program()
		c, otherCode := mustCompile(t, p), mustCompile(t, other)
		for event := range p.On {
			mixed := p
			mixed.On[event] = other.On[event]
			got := mustCompile(t, mixed)
			for each := range got.On {
				want := c.On[each]
				if each == event {
					want = otherCode.On[each]
				}
				if !slices.Equal(got.On[each], want) {
					t.Fatalf("%d, %d: %v; want %v", event, each, got.On[each], want)
				}
			}
		}
	}
}

// P9.6: also if another handler has no code, since it is too long.
func TestLongHandlers(t *testing.T) {
	for event := range api.Events {
		p := with(t, event, longHandler(4000)...)
		alone := mustCompile(t, p).On[event]
		for other := range p.On {
			if other != event {
				p.On[other] = longHandler(3999)
			}
		}
		if got := mustCompile(t, p).On[event]; !slices.Equal(got, alone) {
			t.Errorf("%d: %d instructions", event, len(got))
		}
	}
}

// damages returns what may not be the number or the relation of an instruction.
func damages(x api.Instr, index, end, vars int) []api.Instr {
	_, _, related, low, high, _ := row(x.Op, index, end, vars)
	var list []api.Instr
	for _, n := range []int{low - 1, high + 1, low - 1000, high + 1000} {
		list = append(list, api.Instr{Op: x.Op, N: n, Rel: x.Rel})
	}
	for _, rel := range []int{-1, 1, 6, 7} {
		if !related || rel == -1 || rel == 7 {
			list = append(list, api.Instr{Op: x.Op, N: x.N, Rel: rel})
		}
	}
	if related {
		list = append(list, api.Instr{Op: x.Op, N: x.N})
	}
	return list
}

// P9.7: numbers and relations out of their ranges.
func TestDamagedInstructions(t *testing.T) {
	count := map[int]int{}
	for m := range makers(16, 300) {
		c := mustCompile(t, m.program())
		c.On[m.Intn(api.Events)] = m.handler()
		for event, list := range c.On {
			for i := m.Intn(5); i < len(list); i += 5 {
				x := list[i]
				for _, bad := range damages(x, i, len(list), len(m.vars)) {
					damaged := c
					damaged.On[event] = slices.Clone(list)
					damaged.On[event][i] = bad
					if code.Verify(damaged, len(m.vars)) {
						t.Fatalf("%d, %d: %v: %v", event, i, list, bad)
					}
				}
				count[x.Op]++
			}
			if !code.Verify(c, len(m.vars)) {
				t.Fatalf("%v", c)
			}
		}
	}
	for op := range api.CoJump {
		if count[op+1] < 50 {
			t.Errorf("%v", count)
		}
	}
}

// P9.7: something that takes, or puts, at the end of a handler.
func TestDamagedEnds(t *testing.T) {
	for m := range makers(17, 500) {
		c := mustCompile(t, m.program())
		c.On[m.Intn(api.Events)] = m.handler()
		for event, list := range c.On {
			for op := range api.CoUnless {
				x := do(op + 1)
				if x.Op == api.CoUnless {
					x = unless(1, len(list)+1)
				}
				damaged := c
				damaged.On[event] = append(slices.Clone(list), x)
				if code.Verify(damaged, len(m.vars)) {
					t.Fatalf("%d: %v: %v", event, list, x)
				}
			}
			// What neither takes nor puts is no damage.
			same := c
			same.On[event] = append(slices.Clone(list), jump(len(list)+1))
			if !code.Verify(same, len(m.vars)) {
				t.Fatalf("%d: %v", event, list)
			}
		}
	}
}
