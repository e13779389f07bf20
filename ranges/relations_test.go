package ranges_test

import (
	"testing"

	"queuelab/api"
	"queuelab/ranges"
)

// smallProgram returns a program with two variables in packets, of some ranges, and one without a unit from 0 to 1.
func smallProgram(w, v api.Span) api.Program {
	return api.Program{Name: "p", Pace: -1, Vars: []api.Var{
		{Name: "w", Unit: api.UnitPackets, Low: w.Low, High: w.High, Init: w.Low},
		{Name: "v", Unit: api.UnitPackets, Low: v.Low, High: v.High, Init: v.High},
		{Name: "x", Unit: api.UnitNone, High: 1},
	}}
}

// probe returns a statement that has a flaw exactly where the interval of a divisor, which is in packets, contains 0.
func probe(divisor api.Expr) api.Stmt {
	q := node(api.ExDiv, packets(1), divisor)
	return assign(2, node(api.ExMax, node(api.ExMin, q, plain(1)), plain(0)))
}

// seen returns the numbers from 0 to 4 that the interval of a variable contains at a place of a handler, in which a statement is put there.
func seen(t *testing.T, p api.Program, v int, place func(api.Stmt) []api.Stmt) [api.Events]bool {
	t.Helper()
	for n := range p.On {
		p.On[n] = place(probe(node(api.ExSub, variable(v), packets(n))))
	}
	flaws, err := ranges.Flaws(p)
	if err != api.OK {
		t.Fatalf("%s: %v", brief(p), err)
	}
	var numbers [api.Events]bool
	for _, f := range flaws {
		if f.Err != api.ErrZero {
			t.Fatalf("%s: %v", brief(p), flaws)
		}
		numbers[f.Event] = true
	}
	return numbers
}

// isReached reports whether a place of a handler is reached.
func isReached(t *testing.T, p api.Program, place func(api.Stmt) []api.Stmt) bool {
	t.Helper()
	p.On[1] = place(probe(packets(0)))
	flaws, err := ranges.Flaws(p)
	if err != api.OK {
		t.Fatalf("%s: %v", brief(p), err)
	}
	return len(flaws) > 0
}

// expectSeen checks the intervals of both variables at a place of a handler, which is not reached if there are none.
func expectSeen(t *testing.T, what string, p api.Program, want []api.Span, place func(api.Stmt) []api.Stmt) {
	t.Helper()
	if isReached(t, p, place) != (want != nil) {
		t.Fatalf("%s: %v, %s: it is reached: %v", what, p.Vars, brief(place(api.Stmt{})), want == nil)
	}
	if want == nil {
		return
	}
	for v, s := range want[:2] {
		var numbers [api.Events]bool
		for n := range numbers {
			numbers[n] = contains(s, n)
		}
		if got := seen(t, p, v, place); got != numbers {
			t.Fatalf("%s: %v, %s: variable %d: %v; want %v", what, p.Vars, brief(place(api.Stmt{})), v, got, s)
		}
	}
}

// smallSpans returns all intervals with numbers from 0 to some one.
func smallSpans(greatest int) []api.Span {
	var spans []api.Span
	for high := range greatest + 1 {
		for low := range high + 1 {
			spans = append(spans, span(low, high))
		}
	}
	return spans
}

// P7.1: the intervals in both lists of an if, and behind it, for all intervals with numbers from 0 to 3.
func TestAllRelations(t *testing.T) {
	w, v := variable(0), variable(1)
	for _, ws := range smallSpans(3) {
		for _, vs := range smallSpans(3) {
			sides := [][2]api.Expr{{w, v}, {v, w}, {w, w}, {node(api.ExAdd, w, packets(0)), v}, {w, node(api.ExAdd, v, packets(0))}, {w, node(api.ExAdd, v, w)}}
			for _, x := range sides {
				for rel := api.RelLess; rel <= api.RelOther; rel++ {
					checkRelation(t, smallProgram(ws, vs), x[0], rel, x[1])
				}
			}
		}
		// Numbers, of all sizes, on both sides.
		for n := range 6 {
			for rel := api.RelLess; rel <= api.RelOther; rel++ {
				p := smallProgram(ws, span(1, 2))
				checkRelation(t, p, w, rel, packets(n))
				checkRelation(t, p, packets(n), rel, w)
				checkRelation(t, p, packets(n), rel, packets(2))
				checkRelation(t, p, node(api.ExSub, w, packets(1)), rel, packets(n))
			}
		}
	}
}

func checkRelation(t *testing.T, p api.Program, a api.Expr, rel int, b api.Expr) {
	t.Helper()
	vars := []api.Span{span(p.Vars[0].Low, p.Vars[0].High), span(p.Vars[1].Low, p.Vars[1].High), span(0, 1)}
	left, _ := wantedSpan(vars, [api.Inputs]api.Span{}, a)
	right, _ := wantedSpan(vars, [api.Inputs]api.Span{}, b)
	s := when(a, rel, b, nil, nil)
	then := wantedRefined(vars, s, rel, left, right)
	other := wantedRefined(vars, s, turned[rel], left, right)
	expectSeen(t, "Then", p, then, func(x api.Stmt) []api.Stmt { return list(when(a, rel, b, list(x), nil)) })
	expectSeen(t, "Else", p, other, func(x api.Stmt) []api.Stmt { return list(when(a, rel, b, nil, list(x))) })
	expectSeen(t, "behind it", p, joined(then, other), func(x api.Stmt) []api.Stmt { return list(s, x) })
}

// joined returns the intervals of either list, or those that contain both.
func joined(then, other []api.Span) []api.Span {
	if then == nil {
		return other
	}
	var all []api.Span
	for i, s := range then {
		if other != nil {
			s = span(min(s.Low, other[i].Low), max(s.High, other[i].High))
		}
		all = append(all, s)
	}
	return all
}

// P7.1: the relations one by one, as the chapter has them: a variable w from 1 to 4, and v from 2 to 3.
func TestRelations(t *testing.T) {
	for _, x := range []struct {
		rel                int
		w, v, other, vElse api.Span
	}{
		{api.RelLess, span(1, 2), span(2, 3), span(2, 4), span(2, 3)},
		{api.RelAtMost, span(1, 3), span(2, 3), span(3, 4), span(2, 3)},
		{api.RelMore, span(3, 4), span(2, 3), span(1, 3), span(2, 3)},
		{api.RelAtLeast, span(2, 4), span(2, 3), span(1, 2), span(2, 3)},
		{api.RelEqual, span(2, 3), span(2, 3), span(1, 4), span(2, 3)},
		{api.RelOther, span(1, 4), span(2, 3), span(2, 3), span(2, 3)},
	} {
		p := smallProgram(span(1, 4), span(2, 3))
		w, v := variable(0), variable(1)
		expectSeen(t, "Then", p, []api.Span{x.w, x.v}, func(s api.Stmt) []api.Stmt { return list(when(w, x.rel, v, list(s), nil)) })
		expectSeen(t, "Else", p, []api.Span{x.other, x.vElse}, func(s api.Stmt) []api.Stmt { return list(when(w, x.rel, v, nil, list(s))) })
	}
}

// P7.1: a relation of B to A cuts B: a variable w from 2 to 3, and v from 0 to 4.
func TestConverses(t *testing.T) {
	for rel, want := range map[int]api.Span{
		api.RelLess: span(3, 4), api.RelAtMost: span(2, 4), api.RelMore: span(0, 2), api.RelAtLeast: span(0, 3), api.RelEqual: span(2, 3), api.RelOther: span(0, 4),
	} {
		p := smallProgram(span(2, 3), span(0, 4))
		expectSeen(t, "Then", p, []api.Span{span(2, 3), want}, func(s api.Stmt) []api.Stmt { return list(when(variable(0), rel, variable(1), list(s), nil)) })
		// Where A is an expression, only B is cut.
		a := node(api.ExMul, variable(0), plain(1))
		expectSeen(t, "Then", p, []api.Span{span(2, 3), want}, func(s api.Stmt) []api.Stmt { return list(when(a, rel, variable(1), list(s), nil)) })
	}
}

// P7.1: RelOther takes a number away only at an end; and a variable that is compared with itself may have none left.
func TestOther(t *testing.T) {
	w := variable(0)
	then := func(rel int, b api.Expr) func(s api.Stmt) []api.Stmt {
		return func(s api.Stmt) []api.Stmt { return list(when(w, rel, b, list(s), nil)) }
	}
	for n, want := range map[int]api.Span{0: span(1, 3), 1: span(2, 3), 2: span(1, 3), 3: span(1, 2), 4: span(1, 3)} {
		expectSeen(t, "Then", smallProgram(span(1, 3), span(0, 4)), []api.Span{want, span(0, 4)}, then(api.RelOther, packets(n)))
	}
	expectSeen(t, "Then", smallProgram(span(2, 2), span(0, 4)), nil, then(api.RelOther, packets(2)))
	expectSeen(t, "Then", smallProgram(span(2, 2), span(0, 4)), nil, then(api.RelOther, w))
	expectSeen(t, "Then", smallProgram(span(1, 2), span(0, 4)), nil, then(api.RelLess, w))
	expectSeen(t, "Then", smallProgram(span(1, 2), span(0, 4)), nil, then(api.RelMore, w))
	expectSeen(t, "Then", smallProgram(span(1, 3), span(0, 4)), []api.Span{span(2, 2), span(0, 4)}, then(api.RelLess, w))
	expectSeen(t, "Then", smallProgram(span(1, 2), span(0, 4)), []api.Span{span(1, 2), span(0, 4)}, then(api.RelOther, w))
	expectSeen(t, "behind it", smallProgram(span(1, 2), span(0, 4)), []api.Span{span(1, 2), span(0, 4)}, func(s api.Stmt) []api.Stmt {
		return list(when(w, api.RelLess, w, nil, nil), s)
	})
}
