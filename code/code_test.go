package code_test

import (
	"fmt"
	"math"
	"slices"
	"testing"

	"queuelab/api"
	"queuelab/code"
	"queuelab/control"
	"queuelab/parser"
)

const most = 1000000000000

func number(n, kind int) api.Expr         { return api.Expr{Op: api.ExNumber, N: n, Unit: kind} }
func plain(n int) api.Expr                { return number(n, api.UnitNone) }
func variable(n int) api.Expr             { return api.Expr{Op: api.ExVar, N: n} }
func input(n int) api.Expr                { return api.Expr{Op: api.ExInput, N: n} }
func node(op int, k ...api.Expr) api.Expr { return api.Expr{Op: op, Kids: k} }

// sum returns an expression of so many nodes (an odd number), with a variable as its first kid.
func sum(nodes int) api.Expr {
	e := variable(2)
	for range nodes / 2 {
		e = node(api.ExAdd, e, plain(1))
	}
	return e
}

// brief returns what a message says of a value.
func brief(x any) string {
	text := fmt.Sprintf("%+v", x)
	return text[:min(len(text), 500)]
}

// programOf returns the only program of a source: another copy with each call.
func programOf(t *testing.T, source string) api.Program {
	t.Helper()
	n, diags := parser.Parse(source)
	if len(diags) > 0 {
		t.Fatalf("%s: %v", source, diags)
	}
	programs, diags := control.Build(n)
	if len(programs) != 1 {
		t.Fatalf("%s: %v", source, diags)
	}
	return programs[0]
}

// withHandler returns a program with a handler for an event, and four variables: w and v in packets, n without a unit, and t, a time.
func withHandler(t *testing.T, event int, stmts string) api.Program {
	t.Helper()
	events := []string{"ack", "loss", "mark", "timeout", "path"}
	return programOf(t, "program c { var w packets 1 9 2; var v packets 0 10 10; var n none 0 1000000000 7; var t time 5 5 5; on "+events[event]+" { "+stmts+" } window w; }")
}

// with returns a program with the same variables and other statements for an event.
func with(t *testing.T, event int, list ...api.Stmt) api.Program {
	t.Helper()
	p := withHandler(t, event, "")
	p.On[event] = list
	return p
}

// mustCompile returns the code of a program, which must have some.
func mustCompile(t *testing.T, p api.Program) api.Code {
	t.Helper()
	c, err := code.Compile(p)
	if err != api.OK {
		t.Fatalf("%s: %v", brief(p), err)
	}
	return c
}

// expectRefused checks the error of a program, with which there is no code.
func expectRefused(t *testing.T, name string, p api.Program, want api.Errno) {
	t.Helper()
	c, err := code.Compile(p)
	if err != want {
		t.Errorf("%s: %v; want %v", name, err, want)
	}
	for event, list := range c.On {
		if len(list) > 0 {
			t.Errorf("%s: %d: %s", name, event, brief(list))
		}
	}
}

// expectCode checks the code of statements, for each event.
func expectCode(t *testing.T, stmts string, want ...api.Instr) {
	t.Helper()
	for event := range api.Events {
		for other, list := range mustCompile(t, withHandler(t, event, stmts)).On {
			if other == event && !slices.Equal(list, want) || other != event && len(list) > 0 {
				t.Errorf("%s: %d, %d: %v; want %v", stmts, event, other, list, want)
			}
		}
	}
}

func push(n int) api.Instr        { return api.Instr{Op: api.CoPush, N: n} }
func read(n int) api.Instr        { return api.Instr{Op: api.CoVar, N: n} }
func take(n int) api.Instr        { return api.Instr{Op: api.CoInput, N: n} }
func do(op int) api.Instr         { return api.Instr{Op: op} }
func store(n int) api.Instr       { return api.Instr{Op: api.CoStore, N: n} }
func unless(rel, n int) api.Instr { return api.Instr{Op: api.CoUnless, N: n, Rel: rel} }
func jump(n int) api.Instr        { return api.Instr{Op: api.CoJump, N: n} }

// P9.1: the section Examples.
func TestExample(t *testing.T) {
	expectCode(t, "if acked < 2 packets { w = w + acked; } else { w = 1 packets; }",
		take(0), push(2), unless(api.RelLess, 8), read(0), take(0), do(api.CoAdd), store(0), jump(10), push(1), store(0))
}

// P9.1: I1, code of expressions.
func TestExpressions(t *testing.T) {
	expectCode(t, "n = 0;", push(0), store(2))
	expectCode(t, "n = 1000000000;", push(1000000000), store(2))
	expectCode(t, "w = 7 packets;", push(7), store(0))
	expectCode(t, "t = 7 time;", push(7), store(3))
	expectCode(t, "v = w;", read(0), store(1))
	expectCode(t, "t = t;", read(3), store(3))
	expectCode(t, "w = acked;", take(0), store(0))
	expectCode(t, "t = rtt;", take(1), store(3))
	expectCode(t, "n = size / (2 bytes);", take(2), push(2), do(api.CoDiv), store(2))
	expectCode(t, "v = total;", take(3), store(1))
	for text, op := range map[string]int{"n + 3": api.CoAdd, "n - 3": api.CoSub, "n * 3": api.CoMul, "n / 3": api.CoDiv, "up(n, 3)": api.CoUp, "min(n, 3)": api.CoMin, "max(n, 3)": api.CoMax} {
		expectCode(t, "n = "+text+";", read(2), push(3), do(op), store(2))
	}
	expectCode(t, "n = n - 1 - 2;", read(2), push(1), do(api.CoSub), push(2), do(api.CoSub), store(2))
	expectCode(t, "n = n - (1 - 2);", read(2), push(1), push(2), do(api.CoSub), do(api.CoSub), store(2))
	expectCode(t, "n = max(n + 1, 2) * up(3, min(4, 5));",
		read(2), push(1), do(api.CoAdd), push(2), do(api.CoMax), push(3), push(4), push(5), do(api.CoMin), do(api.CoUp), do(api.CoMul), store(2))
	// An operation may have an N that has no meaning.
	e := node(api.ExSub, plain(1), plain(2))
	e.N, e.Unit = 5, 3
	got := mustCompile(t, with(t, api.OnLoss, api.Stmt{Kind: api.StAssign, Var: 2, A: e})).On[api.OnLoss]
	if want := []api.Instr{push(1), push(2), do(api.CoSub), store(2)}; !slices.Equal(got, want) {
		t.Errorf("%v", got)
	}
}

// P9.1: I1, code of statements.
func TestStatements(t *testing.T) {
	expectCode(t, "")
	expectCode(t, "n = 1; w = v; n = 2;", push(1), store(2), read(1), store(0), push(2), store(2))
	for text, rel := range map[string]int{"<": api.RelLess, "<=": api.RelAtMost, ">": api.RelMore, ">=": api.RelAtLeast, "==": api.RelEqual, "!=": api.RelOther} {
		expectCode(t, "if w "+text+" v { n = 1; }", read(0), read(1), unless(rel, 5), push(1), store(2))
		expectCode(t, "if w "+text+" v { n = 1; } else { n = 2; }", read(0), read(1), unless(rel, 6), push(1), store(2), jump(8), push(2), store(2))
	}
	// Without statements in a block, or in both.
	expectCode(t, "if w < v { }", read(0), read(1), unless(1, 3))
	expectCode(t, "if w < v { } else { }", read(0), read(1), unless(1, 3))
	expectCode(t, "if w < v { n = 1; } else { }", read(0), read(1), unless(1, 5), push(1), store(2))
	expectCode(t, "if w < v { } else { n = 1; }", read(0), read(1), unless(1, 4), jump(6), push(1), store(2))
	// A and B are not only leaves, and A is the first one.
	expectCode(t, "if n - 1 < 2 * n { }", read(2), push(1), do(api.CoSub), push(2), read(2), do(api.CoMul), unless(1, 7))
	// Indices count from the beginning of the handler, not of the statement.
	expectCode(t, "n = 1; if w < v { n = 2; } else { n = 3; } if w > v { n = 4; } n = 5;",
		push(1), store(2),
		read(0), read(1), unless(1, 8), push(2), store(2), jump(10), push(3), store(2),
		read(0), read(1), unless(3, 15), push(4), store(2),
		push(5), store(2))
	// An if in Then, and one in Else.
	expectCode(t, "if w < v { if n < 1 { n = 1; } else { n = 2; } } else { if n < 2 { n = 3; } }",
		read(0), read(1), unless(1, 12),
		read(2), push(1), unless(1, 9), push(1), store(2), jump(11), push(2), store(2),
		jump(17),
		read(2), push(2), unless(1, 17), push(3), store(2))
	expectCode(t, "if w < v { if n < 1 { } n = 2; } n = 3;",
		read(0), read(1), unless(1, 8), read(2), push(1), unless(1, 6), push(2), store(2), push(3), store(2))
}

// P9.1: fields of statements without a meaning do not matter.
func TestOtherFieldsOfStatements(t *testing.T) {
	for _, n := range []int{-1, 0, 1, 7, math.MaxInt} {
		p := withHandler(t, api.OnAck, "n = 9; if n > 1 { n = n + 1; }")
		want := mustCompile(t, p).On[api.OnAck]
		s := p.On[api.OnAck]
		s[0].Rel, s[0].B, s[0].Then, s[0].Else = n, node(n), slices.Clone(s), slices.Clone(s)
		s[1].Var = n
		if got := mustCompile(t, p).On[api.OnAck]; !slices.Equal(got, want) || len(want) != 9 {
			t.Errorf("%d: %v; want %v", n, got, want)
		}
	}
}

// P9.1: I1, programs that are not valid.
func TestWrongPrograms(t *testing.T) {
	bad := func(s api.Stmt) func(p *api.Program) {
		return func(p *api.Program) { p.On[api.OnPath] = []api.Stmt{s} }
	}
	set := func(e api.Expr) func(p *api.Program) { return bad(api.Stmt{Kind: api.StAssign, Var: 2, A: e}) }
	loop := []api.Stmt{{Kind: api.StIf, A: plain(1), Rel: api.RelLess, B: plain(1)}}
	loop[0].Then, loop[0].Else = loop, loop
	endless := node(api.ExAdd, plain(1), plain(1))
	endless.Kids[0] = endless
	long := slices.Repeat([]api.Stmt{{Kind: api.StAssign, Var: 2, A: sum(59)}}, 100)
	for name, change := range map[string]func(p *api.Program){
		"no name":                   func(p *api.Program) { p.Name = "" },
		"a name twice":              func(p *api.Program) { p.Vars[1].Name = "w" },
		"Init below Low":            func(p *api.Program) { p.Vars[3].Init = 4 },
		"no window":                 func(p *api.Program) { p.Window = -1 },
		"a window of another unit":  func(p *api.Program) { p.Window = 2 },
		"a pace of another unit":    func(p *api.Program) { p.Pace = 0 },
		"no variables":              func(p *api.Program) { p.Vars = nil },
		"many variables":            func(p *api.Program) { p.Vars = slices.Repeat(p.Vars, 4) },
		"a statement of no kind":    bad(api.Stmt{}),
		"a unit that does not fit":  bad(api.Stmt{Kind: api.StAssign, Var: 0, A: plain(2)}),
		"no variable":               bad(api.Stmt{Kind: api.StAssign, Var: 4, A: plain(2)}),
		"no relation":               bad(api.Stmt{Kind: api.StIf, A: plain(1), Rel: 7, B: plain(1)}),
		"no expression":             set(api.Expr{}),
		"another operation":         set(node(api.ExMax+1, plain(1), plain(2))),
		"a number below 0":          set(plain(-1)),
		"a great number":            set(plain(1000000001)),
		"a variable too many":       set(variable(4)),
		"an input too many":         set(input(4)),
		"one kid":                   set(node(api.ExAdd, plain(1))),
		"three kids":                set(node(api.ExAdd, plain(1), plain(1), plain(1))),
		"a long expression":         set(sum(61)),
		"an expression without end": set(endless),
		"statements without end":    func(p *api.Program) { p.On[api.OnPath] = loop },
		"many statements":           func(p *api.Program) { p.On[api.OnPath] = slices.Repeat(p.On[api.OnAck], 101) },
		"long code, and no relation": func(p *api.Program) {
			bad(api.Stmt{Kind: api.StIf, A: plain(1), B: plain(1)})(p)
			p.On[api.OnAck] = long
		},
		"no kind, and long code":      func(p *api.Program) { p.On[api.OnAck] = []api.Stmt{{}}; p.On[api.OnPath] = long },
		"long code, and no kind":      func(p *api.Program) { p.On[api.OnAck] = append(long[1:], api.Stmt{}) },
		"long code, and not a window": func(p *api.Program) { p.On[api.OnAck], p.Window = long, 1000 },
	} {
		p := withHandler(t, api.OnAck, "w = 9 packets;")
		change(&p)
		expectRefused(t, name, p, api.ErrArg)
	}
	expectRefused(t, "nothing", api.Program{}, api.ErrArg)
}

// longHandler returns statements whose code has so many instructions, from 3900 to 4100.
func longHandler(length int) []api.Stmt {
	set := api.Stmt{Kind: api.StAssign, Var: 2, A: sum(59)}
	list := slices.Repeat([]api.Stmt{set}, 64)
	rest := length - 64*60
	if rest%2 == 1 {
		// An if without statements has three instructions.
		list = append(list, api.Stmt{Kind: api.StIf, Rel: api.RelLess, A: plain(1), B: plain(2)})
		rest -= 3
	}
	for rest > 0 {
		part := min(rest, 60)
		list = append(list, api.Stmt{Kind: api.StAssign, Var: 2, A: sum(part - 1)})
		rest -= part
	}
	return list
}

// P9.1: I1, the limit of the code of each handler.
func TestLongCode(t *testing.T) {
	for event := range api.Events {
		for length := 3998; length <= 4003; length++ {
			p := with(t, event, longHandler(length)...)
			if length > 4000 {
				expectRefused(t, "long code", p, api.ErrLimit)
				// Shorter handlers do not change this.
				for other := range p.On {
					if other != event {
						p.On[other] = longHandler(4000)
					}
				}
				expectRefused(t, "long code", p, api.ErrLimit)
				continue
			}
			c := mustCompile(t, p)
			if len(c.On[event]) != length || !slices.Equal(c.On[event], codeOf(p.On[event], 0)) || !code.Verify(c, 4) {
				t.Errorf("%d: %d: %d instructions", event, length, len(c.On[event]))
			}
		}
	}
	// The limit is one of each handler, not of all of them.
	p := with(t, api.OnAck)
	for event := range p.On {
		p.On[event] = longHandler(4000)
	}
	if c := mustCompile(t, p); !code.Verify(c, 4) || len(c.On[api.OnPath]) != 4000 {
		t.Errorf("%d instructions", len(c.On[api.OnPath]))
	}
	// The longest handler that a valid program can have.
	expectRefused(t, "the longest code", with(t, api.OnMark, slices.Repeat([]api.Stmt{{Kind: api.StIf, Rel: 1, A: sum(59), B: sum(59)}}, 100)...), api.ErrLimit)
}

// P9.1: I1, statements that lie as deep in each other as they can.
func TestDeepCode(t *testing.T) {
	list := withHandler(t, api.OnAck, "n = n + 1;").On[api.OnAck]
	for i := range api.MaxStmts - 1 {
		s := api.Stmt{Kind: api.StIf, A: variable(2), Rel: 1 + i%6, B: plain(i), Then: list}
		if i%2 == 0 {
			s.Then, s.Else = nil, list
		}
		list = []api.Stmt{s}
	}
	p := with(t, api.OnAck, list...)
	if c := mustCompile(t, p); !slices.Equal(c.On[api.OnAck], codeOf(list, 0)) || !code.Verify(c, 4) {
		t.Errorf("%s", brief(c))
	}
	expectRefused(t, "a statement more", with(t, api.OnAck, append(list, list...)...), api.ErrArg)
}

// P9.1: I1 for many programs.
func TestCompileIsTheReference(t *testing.T) {
	instrs, forks := 0, 0
	for m := range makers(1, 2000) {
		p := m.program()
		c := mustCompile(t, p)
		for event, list := range p.On {
			if want := codeOf(list, 0); !slices.Equal(c.On[event], want) {
				t.Fatalf("%s: %v; want %v", brief(list), c.On[event], want)
			}
			instrs += len(c.On[event])
			for _, x := range c.On[event] {
				if x.Op == api.CoUnless {
					forks++
				}
			}
		}
	}
	if instrs < 100000 || forks < 5000 {
		t.Errorf("%d instructions, %d forks", instrs, forks)
	}
}

// P9.1: what is returned is new with each call.
func TestCodeIsNew(t *testing.T) {
	p := withHandler(t, api.OnAck, "if n < 1 { n = 1; } else { n = 2; }")
	p.On[api.OnLoss] = p.On[api.OnAck]
	first := mustCompile(t, p)
	clear(first.On[api.OnAck])
	second := mustCompile(t, p)
	for _, list := range [][]api.Instr{first.On[api.OnLoss], second.On[api.OnAck], second.On[api.OnLoss]} {
		if !slices.Equal(list, codeOf(p.On[api.OnAck], 0)) {
			t.Errorf("%v", list)
		}
	}
}
