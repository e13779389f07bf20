package meaning_test

import (
	"fmt"
	"math"
	"slices"
	"testing"

	"queuelab/api"
	"queuelab/control"
	"queuelab/meaning"
	"queuelab/parser"
)

const most = 1000000000000

func plain(n int) api.Expr                { return api.Expr{Op: api.ExNumber, N: n} }
func variable(n int) api.Expr             { return api.Expr{Op: api.ExVar, N: n} }
func input(n int) api.Expr                { return api.Expr{Op: api.ExInput, N: n} }
func node(op int, k ...api.Expr) api.Expr { return api.Expr{Op: op, Kids: k} }

// sum returns an expression of so many nodes (an odd number).
func sum(nodes int) api.Expr {
	e := plain(1)
	for range nodes / 2 {
		e = node(api.ExAdd, e, plain(1))
	}
	return e
}

// brief returns what a message says of a value.
func brief(x any) string {
	text := fmt.Sprintf("%+v", x)
	return text[:min(len(text), 500)]
}

// build returns the programs of a source, if nothing is wrong with it.
func build(source string) ([]api.Program, bool) {
	n, diags := parser.Parse(source)
	if len(diags) > 0 {
		return nil, false
	}
	programs, diags := control.Build(n)
	return programs, len(diags) == 0
}

// programOf returns the only program of a source: another copy with each call.
func programOf(t *testing.T, source string) api.Program {
	t.Helper()
	programs, ok := build(source)
	if !ok || len(programs) != 1 {
		t.Fatalf("not a program: %s", source)
	}
	return programs[0]
}

// withHandler returns a program with a handler for an event, and four variables: w (1 to 9) and v (0 to 10) in packets, n (0 to 1000000000) without a unit, and t (5) a time.
func withHandler(t *testing.T, event int, stmts string) api.Program {
	t.Helper()
	events := []string{"ack", "loss", "mark", "timeout", "path"}
	return programOf(t, "program c { var w packets 1 9 2; var v packets 0 10 10; var n none 0 1000000000 7; var t time 5 5 5; on "+events[event]+" { "+stmts+" } window w; }")
}

// callOf returns a call of an event with inputs; those that are missing are the least ones.
func callOf(event int, in ...int) api.Call {
	c := api.Call{Event: event, In: [api.Inputs]int{1, 1, 1, 0}}
	copy(c.In[:], in)
	return c
}

// expectState checks the state after statements, for each event.
func expectState(t *testing.T, stmts string, state []int, want ...int) {
	t.Helper()
	for event := range api.Events {
		if got, err := meaning.Run(withHandler(t, event, stmts), state, callOf(event, 3, 50, 700, 0)); !slices.Equal(got, want) || err != api.OK {
			t.Errorf("%s: %v: %v, %v; want %v", stmts, state, got, err, want)
		}
	}
}

// expectFailure checks the error of statements, for each event.
func expectFailure(t *testing.T, stmts string, state []int, want api.Errno) {
	t.Helper()
	for event := range api.Events {
		expectRefused(t, withHandler(t, event, stmts), state, callOf(event, 3, 50, 700, 0), want)
	}
}

func expectRefused(t *testing.T, p api.Program, state []int, c api.Call, want api.Errno) {
	t.Helper()
	if got, err := meaning.Run(p, state, c); len(got) > 0 || err != want {
		t.Errorf("%s: %v, %v: %v, %v; want %v", brief(p), state, c, got, err, want)
	}
}

// P8.1: the section Examples.
func TestExamples(t *testing.T) {
	p := programOf(t, "program c { var w packets 1 9 2; on ack { w = min(w + acked, 9 packets); } on loss { if w > 4 packets { w = w / 2; } else { w = w - 1 packets; } } window w; }")
	if state, err := meaning.Start(p); !slices.Equal(state, []int{2}) || err != api.OK {
		t.Errorf("%v, %v", state, err)
	}
	for _, x := range []struct {
		state int
		c     api.Call
		want  int
	}{{2, callOf(api.OnAck, 3), 5}, {8, callOf(api.OnAck, 3), 9}, {7, callOf(api.OnLoss), 3}} {
		if got, err := meaning.Run(p, []int{x.state}, x.c); !slices.Equal(got, []int{x.want}) || err != api.OK {
			t.Errorf("%v: %v, %v", x, got, err)
		}
	}
	expectRefused(t, p, []int{1}, callOf(api.OnLoss), api.ErrOver)
	for op, want := range map[int]int{api.ExDiv: -4, api.ExUp: -3} {
		if got, err := meaning.Eval(nil, [api.Inputs]int{}, node(op, plain(-7), plain(2))); got != want || err != api.OK {
			t.Errorf("%d: %v, %v", op, got, err)
		}
	}
}

// P8.1: H1.
func TestStart(t *testing.T) {
	p := withHandler(t, api.OnAck, "w = 9 packets;")
	if got, err := meaning.Start(p); !slices.Equal(got, []int{2, 10, 7, 5}) || err != api.OK {
		t.Errorf("%v, %v", got, err)
	}
	// The longest list of variables, with first values that are the least, the greatest, and others.
	p = api.Program{Name: "p", Pace: -1}
	var want []int
	for i := range api.MaxVars {
		p.Vars = append(p.Vars, api.Var{Name: "v" + string(rune('a'+i)), Unit: api.UnitPackets, Low: i, High: 2 * i, Init: i + i*(i%3)/2})
		want = append(want, i+i*(i%3)/2)
	}
	p.Vars[11].High, p.Vars[11].Init, want[11] = 1000000000, 1000000000, 1000000000
	if got, err := meaning.Start(p); !slices.Equal(got, want) || err != api.OK {
		t.Errorf("%v, %v; want %v", got, err, want)
	}
}

// P8.1: H1 and H3, programs that are not valid; nothing else is wrong with the state or the call.
func TestWrongPrograms(t *testing.T) {
	bad := func(s api.Stmt) func(p *api.Program) {
		return func(p *api.Program) { p.On[api.OnPath] = []api.Stmt{s} }
	}
	loop := []api.Stmt{{Kind: api.StIf, A: plain(1), Rel: api.RelLess, B: plain(1)}}
	loop[0].Then, loop[0].Else = loop, loop
	for name, change := range map[string]func(p *api.Program){
		"no name":                    func(p *api.Program) { p.Name = "" },
		"a name twice":               func(p *api.Program) { p.Vars[1].Name = "w" },
		"a unit":                     func(p *api.Program) { p.Vars[2].Unit = 5 },
		"Low below 0":                func(p *api.Program) { p.Vars[1].Low = -1 },
		"Init below Low":             func(p *api.Program) { p.Vars[3].Init = 4 },
		"Init above High":            func(p *api.Program) { p.Vars[3].Init = 6 },
		"a great High":               func(p *api.Program) { p.Vars[2].High = 1000000001 },
		"no window":                  func(p *api.Program) { p.Window = -1 },
		"a window of another unit":   func(p *api.Program) { p.Window = 2 },
		"a pace of another unit":     func(p *api.Program) { p.Pace = 0 },
		"a statement of no kind":     bad(api.Stmt{}),
		"a unit that does not fit":   bad(api.Stmt{Kind: api.StAssign, Var: 0, A: plain(2)}),
		"no variable":                bad(api.Stmt{Kind: api.StAssign, Var: 4, A: plain(2)}),
		"no relation":                bad(api.Stmt{Kind: api.StIf, A: plain(1), Rel: 7, B: plain(1)}),
		"a number below 0":           bad(api.Stmt{Kind: api.StAssign, Var: 2, A: plain(-1)}),
		"a long expression":          bad(api.Stmt{Kind: api.StAssign, Var: 2, A: sum(61)}),
		"statements that never end":  func(p *api.Program) { p.On[api.OnPath] = loop },
		"many statements":            func(p *api.Program) { p.On[api.OnPath] = slices.Repeat(p.On[api.OnAck], 101) },
		"many variables":             func(p *api.Program) { p.Vars = slices.Repeat(p.Vars, 4) },
		"no variables, nor a window": func(p *api.Program) { p.Vars = nil },
	} {
		p := withHandler(t, api.OnAck, "w = 9 packets;")
		change(&p)
		if got, err := meaning.Start(p); len(got) > 0 || err != api.ErrArg {
			t.Errorf("%s: %v, %v", name, got, err)
		}
		for event := range api.Events {
			state := []int{2, 10, 7, 5}
			if len(p.Vars) != len(state) {
				state = slices.Repeat(state, 4)[:len(p.Vars)]
			}
			expectRefused(t, p, state, callOf(event), api.ErrArg)
		}
	}
}

// P8.1: H3, states and what is none.
func TestStates(t *testing.T) {
	low, high := []int{1, 0, 0, 5}, []int{9, 10, 1000000000, 5}
	expectState(t, "", low, low...)
	expectState(t, "", high, high...)
	wrong := [][]int{nil, {1}, {1, 0, 0}, {1, 0, 0, 5, 5}, {1, 0, 0, 5, 0}}
	for i := range low {
		for _, n := range []int{low[i] - 1, math.MinInt, -low[i] - 1} {
			wrong = append(wrong, slices.Concat(low[:i], []int{n}, low[i+1:]))
		}
		for _, n := range []int{high[i] + 1, most, math.MaxInt} {
			wrong = append(wrong, slices.Concat(high[:i], []int{n}, high[i+1:]))
		}
	}
	for _, state := range wrong {
		expectFailure(t, "", state, api.ErrArg)
		expectFailure(t, "n = 1 / 0;", state, api.ErrArg)
		expectFailure(t, "w = 2 packets; v = 2 packets; n = 2; t = 5 time;", state, api.ErrArg)
	}
}

// P8.1: H3, calls and what is none.
func TestCalls(t *testing.T) {
	state := []int{2, 3, 7, 5}
	for event := range api.Events {
		p := withHandler(t, event, "v = 9 packets;")
		// Each event has its own handler.
		for called := range api.Events {
			want := []int{2, 3, 7, 5}
			if called == event {
				want[1] = 9
			}
			if got, err := meaning.Run(p, state, callOf(called)); !slices.Equal(got, want) || err != api.OK {
				t.Errorf("%d, %d: %v, %v", event, called, got, err)
			}
		}
		for _, called := range []int{-1, 5, 6, math.MinInt, math.MaxInt} {
			expectRefused(t, p, state, callOf(called), api.ErrArg)
		}
		ends := [][2]int{{1, 1000}, {1, 10000000}, {1, 10000}, {0, 4000}}
		for i, end := range ends {
			for _, n := range []int{end[0], end[1]} {
				c := callOf(event)
				c.In[i] = n
				if got, err := meaning.Run(p, state, c); !slices.Equal(got, []int{2, 9, 7, 5}) || err != api.OK {
					t.Errorf("%v: %v, %v", c, got, err)
				}
			}
			// Also inputs that the handler does not use must be right.
			for _, n := range []int{end[0] - 1, end[1] + 1, -1, math.MinInt, math.MaxInt} {
				c := callOf(event)
				c.In[i] = n
				expectRefused(t, p, state, c, api.ErrArg)
				expectRefused(t, withHandler(t, event, "n = 1 / 0;"), state, c, api.ErrArg)
			}
		}
	}
}

// P8.1: an assignment gives the variable the value of A, or fails.
func TestAssignments(t *testing.T) {
	state := []int{2, 3, 7, 5}
	expectState(t, "w = 1 packets;", state, 1, 3, 7, 5)
	expectState(t, "w = 9 packets;", state, 9, 3, 7, 5)
	expectFailure(t, "w = 0 packets;", state, api.ErrOver)
	expectFailure(t, "w = 10 packets;", state, api.ErrOver)
	expectState(t, "v = 0 packets;", state, 2, 0, 7, 5)
	expectState(t, "v = 10 packets;", state, 2, 10, 7, 5)
	expectFailure(t, "v = 0 packets - 1 packets;", state, api.ErrOver)
	expectFailure(t, "v = 11 packets;", state, api.ErrOver)
	expectState(t, "n = 1000000000;", state, 2, 3, 1000000000, 5)
	expectFailure(t, "n = 1000000000 + 1;", state, api.ErrOver)
	expectState(t, "t = 5 time;", state, 2, 3, 7, 5)
	expectFailure(t, "t = 4 time;", state, api.ErrOver)
	expectFailure(t, "t = 6 time;", state, api.ErrOver)
	// A value may be far out of the range, but it must be one.
	expectFailure(t, "n = 1000000000 * 1000;", state, api.ErrOver)
	expectFailure(t, "n = 1000000000 * 1000 + 1;", state, api.ErrRange)
	expectFailure(t, "n = 0 - 1000000000 * 1000;", state, api.ErrOver)
	expectFailure(t, "n = 0 - 1000000000 * 1000 - 1;", state, api.ErrRange)
	expectState(t, "n = min(1000000000 * 1000, 12);", state, 2, 3, 12, 5)
	// Inputs are 3 packets, 50 microseconds, 700 bytes, and no packets.
	expectState(t, "v = acked; n = rtt / (1 time);", state, 2, 3, 50, 5)
	expectState(t, "v = total; n = size / (1 bytes);", state, 2, 0, 700, 5)
}

// P8.1: statements are run one after the other, each in the state behind the one before it.
func TestSequences(t *testing.T) {
	state := []int{2, 3, 7, 5}
	expectState(t, "w = v; v = w;", state, 3, 3, 7, 5)
	expectState(t, "v = w; w = v;", state, 2, 2, 7, 5)
	expectState(t, "w = w + 1 packets; w = w * 2; w = w + w / 4;", state, 7, 3, 7, 5)
	expectState(t, "v = w; w = 9 packets; v = v + w / 9;", state, 9, 3, 7, 5)
	expectState(t, "w = w + v; if w == 5 packets { v = w; } else { v = 0 packets; } w = v + 1 packets;", state, 6, 5, 7, 5)
	expectState(t, "if w < v { w = v; } if w < v { w = 1 packets; } if w == v { v = 8 packets; } else { v = 0 packets; }", state, 3, 8, 7, 5)
	expectState(t, "if w < v { w = w + 1 packets; if w < v { w = 9 packets; } else { v = w * 2; } n = 4; } n = n * n;", state, 3, 6, 16, 5)
}

// P8.1: the first error ends the run.
func TestFirstErrorOfRuns(t *testing.T) {
	state := []int{2, 3, 7, 5}
	over, zero, great := "w = 10 packets;", "n = n / (n - n);", "n = n * 1000000000 * 1000000000;"
	errs := map[string]api.Errno{over: api.ErrOver, zero: api.ErrZero, great: api.ErrRange}
	for first, err := range errs {
		expectFailure(t, first, state, err)
		for second := range errs {
			expectFailure(t, first+second, state, err)
			expectFailure(t, "w = 3 packets;"+first+second, state, err)
			expectFailure(t, "if w < v {"+first+"} else {"+second+"}"+second, state, err)
			expectFailure(t, "if w > v {"+second+"} else {"+first+"}"+second, state, err)
			expectFailure(t, "if w > v {"+second+"}"+first, state, err)
			expectFailure(t, "if w < v { if w < v {"+first+"}"+second+"}"+second, state, err)
		}
		// What is not chosen is not run.
		expectState(t, "if w < v { v = 4 packets; } else {"+first+"}", state, 2, 4, 7, 5)
		expectState(t, "if w > v {"+first+"} else { v = 4 packets; }", state, 2, 4, 7, 5)
		expectState(t, "if w > v {"+first+"}", state, 2, 3, 7, 5)
	}
	// Of an if, A is evaluated first, then B, then it is chosen; of an assignment, A before its range matters.
	expectFailure(t, "if n / 0 < n * 1000000000 * 1000000000 {"+over+"} else {"+over+"}", state, api.ErrZero)
	expectFailure(t, "if n * 1000000000 * 1000000000 < n / 0 {"+over+"} else {"+over+"}", state, api.ErrRange)
	expectFailure(t, "if n == n / 0 {"+over+"} else {"+over+"}", state, api.ErrZero)
	expectFailure(t, "if up(n, 0) == n {"+over+"} else {"+over+"}", state, api.ErrZero)
	expectFailure(t, "w = 20 packets / 0;", state, api.ErrZero)
	// An error does not need to reach a value that matters.
	expectFailure(t, "w = max(1 packets, min(w, v / 0));", state, api.ErrZero)
	expectFailure(t, "n = 0 * (1000000000 * 1000000000);", state, api.ErrRange)
}

// P8.1: each relation, for numbers that are less, equal and greater, also below 0.
func TestRelations(t *testing.T) {
	for rel, holds := range map[string][3]bool{"<": {true, false, false}, "<=": {true, true, false}, ">": {false, false, true}, ">=": {false, true, true}, "==": {false, true, false}, "!=": {true, false, true}} {
		for i, w := range []int{2, 6, 9} {
			n := 2
			if holds[i] {
				n = 1
			}
			state, want := []int{w, 6, 0, 5}, []int{w, 6, n, 5}
			for _, condition := range []string{"w " + rel + " v", "0 packets - v " + rel + " 0 packets - w", "w * 1000 - 8000 packets " + rel + " v * 1000 - 8000 packets"} {
				expectState(t, "if "+condition+" { n = 1; } else { n = 2; }", state, want...)
				expectState(t, "n = 2; if "+condition+" { n = 1; }", state, want...)
				expectState(t, "n = 1; if "+condition+" { } else { n = 2; }", state, want...)
				expectState(t, "if "+condition+" { n = n + 2; n = n / 2; } else { n = n + 1; n = n * 2; }", state, want...)
			}
		}
	}
}

// P8.1: fields of statements without a meaning do not matter.
func TestOtherFieldsOfStatements(t *testing.T) {
	over := []api.Stmt{{Kind: api.StAssign, Var: 2, A: node(api.ExDiv, plain(1), plain(0))}}
	for _, n := range []int{-1, 0, 1, 7, math.MaxInt} {
		p := withHandler(t, api.OnAck, "n = 9; if n > 1 { n = n + 1; }")
		s := p.On[api.OnAck]
		s[0].Rel, s[0].B, s[0].Then, s[0].Else = n, node(n), over, over
		s[1].Var = n
		if got, err := meaning.Run(p, []int{2, 3, 7, 5}, callOf(api.OnAck)); !slices.Equal(got, []int{2, 3, 10, 5}) || err != api.OK {
			t.Errorf("%d: %v, %v", n, got, err)
		}
	}
}

// P8.1: the longest handlers, and the deepest ones.
func TestLongHandlers(t *testing.T) {
	p := withHandler(t, api.OnAck, "n = n + 1;")
	p.On[api.OnAck] = slices.Repeat(p.On[api.OnAck], api.MaxStmts)
	if got, err := meaning.Run(p, []int{2, 3, 7, 5}, callOf(api.OnAck)); !slices.Equal(got, []int{2, 3, 107, 5}) || err != api.OK {
		t.Errorf("%v, %v", got, err)
	}
	// Trees of sources are less deep, but valid programs may be made otherwise.
	deep := withHandler(t, api.OnAck, "n = n + 1;").On[api.OnAck]
	for range api.MaxStmts - 1 {
		deep = []api.Stmt{{Kind: api.StIf, A: variable(2), Rel: api.RelEqual, B: plain(7), Then: deep}}
	}
	p.On[api.OnAck] = deep
	if got, err := meaning.Run(p, []int{2, 3, 7, 5}, callOf(api.OnAck)); !slices.Equal(got, []int{2, 3, 8, 5}) || err != api.OK {
		t.Errorf("%v, %v", got, err)
	}
	p.On[api.OnAck] = []api.Stmt{{Kind: api.StIf, A: variable(2), Rel: api.RelEqual, B: plain(7), Then: deep}}
	expectRefused(t, p, []int{2, 3, 7, 5}, callOf(api.OnAck), api.ErrArg)
}
