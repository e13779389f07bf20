package control_test

import (
	"math"
	"slices"
	"strconv"
	"strings"
	"testing"

	"queuelab/api"
	"queuelab/control"
	"queuelab/parser"
)

func number(n, unit int) api.Expr         { return api.Expr{Op: api.ExNumber, N: n, Unit: unit} }
func variable(n int) api.Expr             { return api.Expr{Op: api.ExVar, N: n} }
func input(n int) api.Expr                { return api.Expr{Op: api.ExInput, N: n} }
func with(op int, a, b api.Expr) api.Expr { return api.Expr{Op: op, Kids: []api.Expr{a, b}} }

func assign(variable int, a api.Expr) api.Stmt {
	return api.Stmt{Kind: api.StAssign, Var: variable, A: a}
}

// simple returns the program of simpleText.
func simple() api.Program {
	return api.Program{Name: "c", Vars: []api.Var{{Name: "w", Unit: api.UnitPackets, Low: 1, High: 9, Init: 2}}, Pace: -1}
}

const simpleText = "program c { var w packets 1 9 2; window w; }"

func expectPrograms(t *testing.T, text string, want ...api.Program) {
	t.Helper()
	list, diags := control.Build(parsed(t, text))
	if len(diags) > 0 || !slices.EqualFunc(list, want, same) {
		t.Errorf("%.300q: %s, %v; want %s", text, brief(list), diags, brief(want))
	}
	for _, p := range list {
		if !control.Valid(p) {
			t.Errorf("%.300q: it is not valid: %s", text, brief(p))
		}
	}
}

// expectErrors checks the diagnostics of a text; they are at the marks @ in it, in their order.
func expectErrors(t *testing.T, text string, want ...api.Errno) {
	t.Helper()
	pieces := strings.Split(text, "@")
	at, diags := 0, []api.Diag{}
	for i, err := range want {
		at += len(pieces[i])
		diags = append(diags, api.Diag{Err: err, At: at})
	}
	list, got := control.Build(parsed(t, strings.Join(pieces, "")))
	if len(list) > 0 || !slices.Equal(got, diags) {
		t.Errorf("%.1500q: %v, %s; want %v", text, got, brief(list), diags)
	}
}

// expectRight checks that texts have no diagnostics, but their programs.
func expectRight(t *testing.T, texts ...string) {
	t.Helper()
	for _, text := range texts {
		n := parsed(t, text)
		list, diags := control.Build(n)
		if len(diags) > 0 || len(list) != len(kidsOf(n, api.NodeProgram)) {
			t.Errorf("%.1500q: %v, %s", text, diags, brief(list))
		}
	}
}

// inAck returns a program with statements in a handler, and with a variable of each unit.
func inAck(stmts string) string {
	return "program c { " + allVars + "on ack { " + stmts + " } window w; }"
}

// atAck returns the same with a mark at the handler.
func atAck(stmts string) string { return strings.Replace(inAck(stmts), "on ack", "@on ack", 1) }

const allVars = "var n none 0 9 2; var w packets 0 9 2; var b bytes 0 9 2; var t time 0 9 2; var r rate 0 9 2; "

// P5.1, and the section Examples.
func TestExamples(t *testing.T) {
	p := simple()
	p.On[api.OnAck] = []api.Stmt{assign(0, with(api.ExMin, with(api.ExAdd, variable(0), number(1, 1)), number(9, 1)))}
	expectPrograms(t, "program c { var w packets 1 9 2; on ack { w = min(w + 1 packets, 9 packets); } window w; }", p)
	for text, want := range map[string]api.Diag{
		"program c { var w packets 1 9 2; on ack { w = min(x + 1 packets, 9 packets); } window w; }": {Err: api.ErrName, At: 50},
		"program c { var w packets 1 9 2; on ack { w = min(w + 1, 9 packets); } window w; }":         {Err: api.ErrUnit, At: 33},
		"program c { window w; }": {Err: api.ErrName, At: 12},
	} {
		if list, diags := control.Build(parsed(t, text)); len(list) > 0 || len(diags) != 1 || diags[0] != want {
			t.Errorf("%q: %v, %v", text, list, diags)
		}
	}
}

// P5.1: sources without programs.
func TestNoPrograms(t *testing.T) {
	for _, text := range []string{"", "# nothing\n", "path p a back 1;", "link l rate 1 delay 1 room 1 tail; flow f program c paths p size 1 window 1 start 1;"} {
		expectPrograms(t, text)
	}
}

// P5.1: trees that are not valid have one diagnostic, whatever else there is.
func TestWrongTrees(t *testing.T) {
	good := itemOf(simple())
	wrong := good
	wrong.Name = "if"
	late := source(good)
	late.Kind, late.At = api.NodeBlock, 7
	endless := node(api.NodeSource, make([]api.Node, 2)...)
	endless.Kids[0], endless.Kids[1] = endless, endless
	many := source(slices.Repeat([]api.Node{named(api.NodeProgram, "c", 0, named(api.NodeUse, "w", 0))}, 1250)...)
	for i, n := range []api.Node{{}, good, {Kind: api.NodeSource, N: 1}, {Kind: api.NodeSource, Unit: 1}, {Kind: api.NodeSource, Name: "c"}, source(wrong), source(good, wrong), source(good, good, wrong), source(good, node(0)), source(source()), late, endless, many} {
		list, diags := control.Build(n)
		if len(list) > 0 || !slices.Equal(diags, []api.Diag{{Err: api.ErrArg}}) {
			t.Errorf("tree %d: %v, %v", i, list, diags)
		}
	}
	// At most 2500 nodes are valid, whatever they contain.
	many.Kids = many.Kids[1:]
	if _, diags := control.Build(many); len(diags) != 20 || diags[0].Err != api.ErrName {
		t.Errorf("%v", diags)
	}
}

// P5.1: what a program declares.
func TestDeclarations(t *testing.T) {
	expectPrograms(t, simpleText, simple())
	p := api.Program{Name: "abcdefghijkl", Window: 1, Pace: 4, Vars: []api.Var{
		{Name: "n", Unit: api.UnitNone, Low: 0, High: 0, Init: 0}, {Name: "w", Unit: api.UnitPackets, Low: 0, High: 1000000000, Init: 3},
		{Name: "b", Unit: api.UnitBytes, Low: 4, High: 7, Init: 7}, {Name: "t", Unit: api.UnitTime, Low: 5, High: 8, Init: 5}, {Name: "r", Unit: api.UnitRate, Low: 1000000000, High: 1000000000, Init: 1000000000}}}
	text := "program abcdefghijkl { var n none 0 0 0; var w packets 0 1000000000 3; var b bytes 4 7 7; var t time 5 8 5; var r rate 1000000000 1000000000 1000000000; "
	expectPrograms(t, text+"window w; pace r; }", p)
	p.Pace = -1
	expectPrograms(t, text+"window w; }", p)
	q := simple()
	q.Name, q.Vars[0].Name = "d", "d"
	expectPrograms(t, simpleText+"path c a back 1;"+"program d { var d packets 1 9 2; window d; }", simple(), q)
}

// P5.1: handlers stand at their events.
func TestEvents(t *testing.T) {
	for event, word := range []string{api.OnAck: "ack", api.OnLoss: "loss", api.OnMark: "mark", api.OnTimeout: "timeout", api.OnPath: "path"} {
		p := simple()
		expectPrograms(t, "program c { var w packets 1 9 2; on "+word+" { } window w; }", p)
		p.On[event] = []api.Stmt{assign(0, number(event, 1)), assign(0, variable(0))}
		expectPrograms(t, "program c { var w packets 1 9 2; on "+word+" { w = "+strconv.Itoa(event)+" packets; w = w; } window w; }", p)
	}
}

// expectStmts checks statements of a handler with the variables n, w, b, t and r, whose indices are their units.
func expectStmts(t *testing.T, text string, want ...api.Stmt) {
	t.Helper()
	list, diags := control.Build(parsed(t, inAck(text)))
	if len(diags) > 0 || len(list) != 1 || !slices.EqualFunc(list[0].On[api.OnAck], want, sameStmt) {
		t.Errorf("%q: %s, %v; want %s", text, brief(list), diags, brief(want))
	}
}

// P5.1: all operations, inputs and units of numbers.
func TestExpressions(t *testing.T) {
	for unit, words := range [][2]string{{"n = 7;", "n = 7 none;"}, {"w = 7 packets;"}, {"b = 7 bytes;"}, {"t = 7 time;"}, {"r = 7 rate;"}} {
		expectStmts(t, words[0]+words[1], slices.Repeat([]api.Stmt{assign(unit, number(7, unit))}, 1+strings.Count(words[1], "="))...)
		expectStmts(t, strings.Replace(words[0], "7", "1000000000", 1), assign(unit, number(1000000000, unit)))
		name := words[0][:1]
		expectStmts(t, name+" = "+name+";", assign(unit, variable(unit)))
	}
	for word, of := range map[string][2]int{"w = acked;": {1, api.InAcked}, "t = rtt;": {3, api.InRtt}, "b = size;": {2, api.InSize}, "w = total;": {1, api.InTotal}} {
		expectStmts(t, word, assign(of[0], input(of[1])))
	}
	for text, op := range map[string]int{"n + 3": api.ExAdd, "n - 3": api.ExSub, "n * 3": api.ExMul, "n / 3": api.ExDiv, "up(n, 3)": api.ExUp, "min(n, 3)": api.ExMin, "max(n, 3)": api.ExMax} {
		expectStmts(t, "n = "+text+";", assign(0, with(op, variable(0), number(3, 0))))
		expectStmts(t, "n = 5 - ("+text+");", assign(0, with(api.ExSub, number(5, 0), with(op, variable(0), number(3, 0)))))
		expectStmts(t, "n = max("+text+", 5);", assign(0, with(api.ExMax, with(op, variable(0), number(3, 0)), number(5, 0))))
	}
	expectStmts(t, "r = size * 8 / rtt;", assign(4, with(api.ExDiv, with(api.ExMul, input(api.InSize), number(8, 0)), input(api.InRtt))))
	expectStmts(t, "n = 1 - 2 - (3 - 4);", assign(0, with(api.ExSub, with(api.ExSub, number(1, 0), number(2, 0)), with(api.ExSub, number(3, 0), number(4, 0)))))
}

// P5.1: conditions, with all relations and both blocks.
func TestConditions(t *testing.T) {
	one, two, three := assign(0, number(1, 0)), assign(0, number(2, 0)), assign(1, number(3, 1))
	for relation, word := range []string{api.RelLess: "<", api.RelAtMost: "<=", api.RelMore: ">", api.RelAtLeast: ">=", api.RelEqual: "==", api.RelOther: "!="} {
		if word == "" {
			continue
		}
		s := api.Stmt{Kind: api.StIf, Rel: relation, A: variable(1), B: input(api.InAcked)}
		begin := "if w " + word + " acked "
		expectStmts(t, begin+"{ }", s)
		expectStmts(t, begin+"{ } else { }", s)
		s.Then = []api.Stmt{one, two}
		expectStmts(t, begin+"{ n = 1; n = 2; }", s)
		s.Else = []api.Stmt{two, three}
		expectStmts(t, begin+"{ n = 1; n = 2; } else { n = 2; w = 3 packets; } n = 1;", s, one)
		s.Then = nil
		expectStmts(t, "n = 1;"+begin+"{ } else { n = 2; w = 3 packets; }", one, s)
		around := api.Stmt{Kind: api.StIf, Rel: api.RelEqual, A: variable(3), B: with(api.ExMul, input(api.InRtt), number(2, 0)), Then: []api.Stmt{s}, Else: []api.Stmt{one, s, two}}
		inner := begin + "{ } else { n = 2; w = 3 packets; }"
		expectStmts(t, "if t == rtt * 2 { "+inner+" } else { n = 1; "+inner+" n = 2; }", around)
	}
}

// P5.1: the names of programs.
func TestNamesOfPrograms(t *testing.T) {
	other := strings.Replace(simpleText, " c ", " d ", 1)
	wrong := "program c { @window w; }"
	expectErrors(t, simpleText+"@"+simpleText, api.ErrTwice)
	expectErrors(t, simpleText+other+"@"+simpleText+"@"+other, api.ErrTwice, api.ErrTwice)
	// An earlier program counts though it has an error, and this comes before other errors.
	expectErrors(t, wrong+"@"+simpleText, api.ErrName, api.ErrTwice)
	expectErrors(t, wrong+"@program c { window w; }"+other, api.ErrName, api.ErrTwice)
	// Other items, and variables, do not count.
	expectPrograms(t, "path c c back 1; flow c program c paths c size 1 window 1 start 1; link c rate 1 delay 1 room 1 tail; "+simpleText+" path c c back 1;", simple())
}

// P5.1: at most 8 programs, and at most 20 diagnostics.
func TestManyItems(t *testing.T) {
	texts := func(mark, part string, from, to int) string {
		all := ""
		for i := from; i < to; i++ {
			all += mark + "program p" + strconv.Itoa(i) + " { " + part + " } path p" + strconv.Itoa(i) + " a back 1; "
		}
		return all
	}
	right, wrong := "var w packets 1 1 1; window w;", "@window w;"
	if list, diags := control.Build(parsed(t, texts("", right, 0, 8))); len(diags) > 0 || len(list) != 8 {
		t.Errorf("%v, %v", list, diags)
	}
	limits, names, twice := slices.Repeat([]api.Errno{api.ErrLimit}, 30), slices.Repeat([]api.Errno{api.ErrName}, 30), slices.Repeat([]api.Errno{api.ErrTwice}, 30)
	for n := 1; n <= 25; n++ {
		expectErrors(t, texts("", right, 0, 8)+texts("@", right, 8, 8+n), limits[:min(n, 20)]...)
		expectErrors(t, texts("", wrong, 0, 8)+texts("@", right, 8, 8+n), slices.Concat(names[:8], limits[:min(n, 12)])...)
		expectErrors(t, texts("", wrong, 0, 4)+texts("", right, 4, 8)+texts("@", right, 8, 8+n), slices.Concat(names[:4], limits[:min(n, 16)])...)
		expectErrors(t, texts("", right, 0, 1)+strings.Repeat("@program p0 { window w; } ", n), twice[:min(n, 20)]...)
		expectErrors(t, texts("", wrong, 0, min(n, 8))+texts("", right, min(n, 8), 8), names[:min(n, 8)]...)
	}
	// The name comes before the number, and this before what is in the item.
	expectErrors(t, texts("", right, 0, 8)+texts("@", right, 0, 2)+texts("@", strings.Trim(wrong, "@"), 8, 9), api.ErrTwice, api.ErrTwice, api.ErrLimit)
}

// P5.1: variables.
func TestVariables(t *testing.T) {
	many := func(count int) string {
		text := ""
		for i := range count {
			text += "var v" + strconv.Itoa(i) + " none 0 0 0; "
		}
		return text
	}
	begin, end := "program c { var w packets 1 9 2; ", "window w; }"
	list, diags := control.Build(parsed(t, begin+many(11)+end))
	if len(diags) > 0 || len(list) != 1 || len(list[0].Vars) != 12 {
		t.Errorf("%v, %v", list, diags)
	}
	expectErrors(t, begin+many(11)+"@var x none 0 0 0; "+end, api.ErrLimit)
	expectErrors(t, begin+many(11)+"@var x none 0 0 0; var y none 0 0 0; "+end, api.ErrLimit)
	expectErrors(t, begin+"@var w none 0 0 0; "+end, api.ErrTwice)
	expectErrors(t, begin+"@var w packets 1 9 2; "+end, api.ErrTwice)
	expectErrors(t, begin+many(10)+"@var v0 packets 1 9 2; "+end, api.ErrTwice)
	// For each one, the number of variables comes first, then the name, then the range.
	expectErrors(t, begin+many(11)+"@var w none 1 0 0; "+end, api.ErrLimit)
	expectErrors(t, begin+many(11)+"@var x none 1 0 0; "+end, api.ErrLimit)
	expectErrors(t, begin+"@var w none 1 0 0; "+end, api.ErrTwice)
	// What is wrong with a variable comes before what is wrong with a later one.
	expectErrors(t, begin+"@var x none 1 0 0; var w none 0 0 0; "+many(11)+end, api.ErrRange)
	expectErrors(t, begin+"@var w none 1 0 0; var x none 1 0 0; "+many(11)+end, api.ErrTwice)
	expectErrors(t, begin+"@var x none 1 0 0; var x none 1 0 0; "+end, api.ErrRange)
	// Names of programs and of other items are no names of variables.
	expectPrograms(t, "path w w back 1; program w { var w packets 1 9 2; window w; }", api.Program{Name: "w", Vars: simple().Vars, Pace: -1})
}

// P5.1: all orders of three numbers.
func TestRanges(t *testing.T) {
	some := []int{0, 1, 2, 999999999, 1000000000}
	for _, low := range some {
		for _, high := range some {
			for _, first := range some {
				numbers := strconv.Itoa(low) + " " + strconv.Itoa(high) + " " + strconv.Itoa(first)
				for _, unit := range []string{"none", "packets", "rate"} {
					text := "var x " + unit + " " + numbers + "; window w; }"
					if low <= first && first <= high {
						expectRight(t, "program c { var w packets 0 0 0; "+text)
						continue
					}
					expectErrors(t, "program c { var w packets 0 0 0; @"+text, api.ErrRange)
				}
			}
		}
	}
}

// P5.1: handlers of one event, and what comes before and after this error.
func TestHandlersTwice(t *testing.T) {
	begin, end := "program c { var w packets 1 9 2; ", " window w; }"
	for _, event := range []string{"ack", "loss", "mark", "timeout", "path"} {
		on := "on " + event + " { "
		expectErrors(t, begin+on+"} @"+on+"}"+end, api.ErrTwice)
		expectErrors(t, begin+on+"w = 1; } @"+on+"w = 1; }"+end, api.ErrTwice)
		expectErrors(t, begin+on+"w = @x; } "+on+"}"+end, api.ErrName)
		expectErrors(t, begin+on+"} @"+on+"w = x; }"+end, api.ErrTwice)
		expectErrors(t, begin+on+"} @"+on+strings.Repeat("w = w; ", 101)+"}"+end, api.ErrTwice)
		expectErrors(t, begin+"@"+on+strings.Repeat("w = w; ", 101)+"} "+on+"}"+end, api.ErrLimit)
	}
	all := "on ack { } on loss { } on mark { } on timeout { } on path { } "
	expectRight(t, begin+all+end)
	for _, on := range strings.SplitAfter(strings.TrimSpace(all), "} ") {
		expectErrors(t, begin+all+"@"+on+" "+all+end, api.ErrTwice)
	}
}

// P5.1: at most 100 statements in a handler, with those in blocks.
func TestLongHandlers(t *testing.T) {
	stmts := func(count int) string { return strings.Repeat("w = w; ", count) }
	// Each of these has so many statements beside those that are put into it.
	for text, own := range map[string]int{"#": 0, "if w < w { # }": 1, "if w < w { } else { # }": 1, "if w < w { } else { if w < w { # } }": 2, "w = w; if w < w { w = w; } else { # w = w; } w = w;": 5, "if w < w { if w < w { # } else { w = w; } w = w; } else { w = w; }": 5} {
		right, wrong := strings.Replace(text, "#", stmts(100-own), 1), strings.Replace(text, "#", stmts(101-own), 1)
		expectRight(t, inAck(right), inAck(right+" } on loss { "+right+" } on path { "+right))
		expectErrors(t, atAck(wrong), api.ErrLimit)
		expectErrors(t, atAck(stmts(50)+strings.Replace(text, "#", stmts(51-own), 1)), api.ErrLimit)
		// This comes before the names in it.
		expectErrors(t, atAck("x = x; "+right), api.ErrLimit)
		expectErrors(t, atAck(right+" w = x; "), api.ErrLimit)
		expectErrors(t, inAck(right+" } on loss { "+right+" } @on path { "+wrong), api.ErrLimit)
		expectErrors(t, inAck("n = @x; } on loss { "+wrong), api.ErrName)
	}
}

// P5.1: at most 60 nodes in an expression.
func TestLongExpressions(t *testing.T) {
	sum := func(operands int) string { return "w" + strings.Repeat(" + w", operands-1) }
	mixed := func(parts int) string { return "w" + strings.Repeat(" + max(w, w - w) - w", parts) }
	for _, text := range []string{"w = #;", "if # < w { }", "if w < # { }", "if # < # { }", "if w < w { w = #; }", "if w < w { } else { w = #; }", "if w < w { if # < # { w = #; } }", "w = #; w = #; w = #;"} {
		expectRight(t, inAck(strings.ReplaceAll(text, "#", sum(30))), inAck(strings.ReplaceAll(text, "#", mixed(7))))
		for _, e := range []string{sum(31), mixed(8)} {
			first := strings.Replace(text, "#", "@"+e, 1)
			expectErrors(t, inAck(strings.ReplaceAll(first, "#", "w")), api.ErrLimit)
			expectErrors(t, inAck(strings.ReplaceAll(first, "#", e)), api.ErrLimit)
		}
		last := strings.LastIndex(text, "#")
		expectErrors(t, inAck(strings.ReplaceAll(text[:last], "#", "w")+"@"+sum(31)+text[last+1:]), api.ErrLimit)
	}
	for _, x := range []struct {
		stmt string
		err  api.Errno
	}{
		{"@x = " + sum(31) + ";", api.ErrName}, {"w = @" + sum(31) + " + x;", api.ErrLimit}, {"w = @x + " + sum(31) + ";", api.ErrLimit}, {"w = " + sum(29) + " + @x;", api.ErrName},
		{"if @x < " + sum(31) + " { }", api.ErrName}, {"if w < @" + sum(31) + " { x = x; }", api.ErrLimit}, {"if @" + sum(31) + " < x { }", api.ErrLimit}, {"if w < @x { w = " + sum(31) + "; }", api.ErrName},
		{"w = @x; w = " + sum(31) + ";", api.ErrName}, {"w = @" + sum(31) + "; x = x;", api.ErrLimit},
	} {
		expectErrors(t, inAck(x.stmt), x.err)
	}
}

// P5.1: the first name that is not declared, in the order of the nodes.
func TestNames(t *testing.T) {
	for _, stmts := range []string{"@x = w;", "@x = x;", "w = @x;", "w = w + @x;", "w = @x + y;", "w = w * (w - @x) * y;", "w = min(w, max(@x, y));", "w = up(@x, w) + y;", "w = acked + rtt + size + total + @x;",
		"if @x < y { z = x; }", "if w < @y { z = x; }", "if w < w { @z = x; }", "if w < w { w = @x; }", "if w < w { w = w; } else { @z = x; }", "if w < w { @y = w; } else { z = w; }", "if w < w { } else { w = @x; } y = w;",
		"if w < w { if w < @x { } }", "if w < w { if w < w { } else { @x = w; } y = w; }", "w = w; @x = w; y = w;", "w = w; w = @x; y = w;", "w = 1; w = @x;", "if w < 1 { w = @x; }", "@c = w;", "@nothing = w;", "w = @c;", "w = @ack1;"} {
		expectErrors(t, inAck(stmts), api.ErrName)
	}
	// What other programs declare does not count.
	expectErrors(t, "program a { var w packets 1 9 2; var x none 0 0 0; window w; } "+
		"program b { var w packets 1 9 2; on ack { w = @x; } window w; } program d { var w packets 1 9 2; on ack { @x = 1; } window w; } program e { var w packets 1 9 2; window w; @pace x; }",
		api.ErrName, api.ErrName, api.ErrName)
}

// P5.1: uses of variables.
func TestUses(t *testing.T) {
	uses := func(text string) string { return "program c { " + allVars + "on ack { n = 1; } " + text + " }" }
	expectRight(t, uses("window w;"), uses("window w; pace r;"))
	for _, name := range []string{"n", "b", "t", "r"} {
		expectErrors(t, uses("@window "+name+";"), api.ErrUnit)
		expectErrors(t, uses("@window "+name+"; pace r;"), api.ErrUnit)
		expectErrors(t, uses("@window "+name+"; pace x;"), api.ErrUnit)
	}
	for _, name := range []string{"n", "w", "b", "t"} {
		expectErrors(t, uses("window w; @pace "+name+";"), api.ErrUnit)
		expectErrors(t, uses("@window x; pace "+name+";"), api.ErrName)
	}
	for _, name := range []string{"x", "c", "ww", "nothing"} {
		expectErrors(t, uses("@window "+name+";"), api.ErrName)
		expectErrors(t, uses("@window "+name+"; pace r;"), api.ErrName)
		expectErrors(t, uses("@window "+name+"; pace "+name+";"), api.ErrName)
		expectErrors(t, uses("window w; @pace "+name+";"), api.ErrName)
	}
	// Without variables, no name is one.
	expectErrors(t, "program c { on ack { } @window w; }", api.ErrName)
	expectErrors(t, "program c { on ack { @w = 1 packets; } window w; }", api.ErrName)
}

// P5.1: units that do not fit, at the handler of the first event that has some.
func TestUnits(t *testing.T) {
	for _, stmts := range []string{"w = 1;", "n = w;", "w = w + 1;", "w = min(1, w);", "if w < 1 { }", "if w < t { } else { }", "if w < w { n = t; }", "if w < w { } else { n = 1 rate; }", "n = 1; b = rtt;", "t = size / r + 1;", "r = r * 1 time;", "n = w * w * w * w * w / w / w / w / w / w;"} {
		expectErrors(t, atAck(stmts), api.ErrUnit)
	}
	expectRight(t, inAck("r = size / rtt; r = b / t; n = w / acked; t = up(size, r); w = total * n; w = w * w * w * w / w / w / w; if w * t < 2 packets * rtt { n = 1; }"))
	events := []string{"ack", "loss", "mark", "timeout", "path"}
	for first := range events {
		for second := range events {
			if first == second {
				continue
			}
			// The first event counts, not the first handler.
			marks := [2]string{"@", ""}
			if second < first {
				marks = [2]string{"", "@"}
			}
			expectErrors(t, "program c { "+allVars+marks[0]+"on "+events[first]+" { w = 1; } "+marks[1]+"on "+events[second]+" { n = w; } window w; }", api.ErrUnit)
			expectErrors(t, "program c { "+allVars+"on "+events[first]+" { n = 1; } @on "+events[second]+" { n = w; } window w; }", api.ErrUnit)
		}
	}
}

// P5.1: of two errors in different parts, the one that comes first in the chapter is reported.
func TestOrder(t *testing.T) {
	// The parts of a program in which errors are found one after the other: right, wrong, the error.
	parts := []struct {
		right, wrong string
		err          api.Errno
	}{
		{"program c { ", "@program earlier { ", api.ErrTwice},
		{"var w packets 1 9 2; var x none 1 1 1; ", "var w packets 1 9 2; @var x none 2 1 1; ", api.ErrRange},
		{"var y none 1 1 1; ", "@var w none 1 1 1; ", api.ErrTwice},
		{"var z none 1 1 1; ", "@var z none 1 1 2; ", api.ErrRange},
		{"on loss { x = 1; ", "on loss { @f = 1; ", api.ErrName},
		{"x = x; } ", "x = x + @g; } ", api.ErrName},
		{"on path { } ", "@on loss { } ", api.ErrTwice},
		{"on mark { x = 1; } ", "@on mark { " + strings.Repeat("x = 1; ", 101) + "} ", api.ErrLimit},
		{"on timeout { if x < x { x = x; } } ", "on timeout { if x < @x" + strings.Repeat(" + x", 30) + " { x = x; } } ", api.ErrLimit},
		{"window w; ", "@window h; ", api.ErrName},
		{"pace r; }", "@pace w; }", api.ErrUnit},
	}
	// The last error is in the first handler: units come after everything else.
	compose := func(units bool, wrong ...int) string {
		text := "program earlier { var w packets 1 1 1; window w; } "
		for i, part := range parts {
			if slices.Contains(wrong, i) {
				text += part.wrong
			} else {
				text += part.right
			}
			if i == 3 && units {
				text += "var r rate 0 0 0; @on ack { x = w; } "
			} else if i == 3 {
				text += "var r rate 0 0 0; on ack { x = 1; } "
			}
		}
		return text
	}
	expectRight(t, compose(false))
	expectErrors(t, compose(true), api.ErrUnit)
	for i, first := range parts {
		expectErrors(t, compose(false, i), first.err)
		for k := i + 1; k < len(parts); k++ {
			expectErrors(t, compose(false, i, k), first.err)
		}
		expectErrors(t, strings.Replace(compose(true, i), "@on ack", "on ack", 1), first.err)
	}
}

// P5.1: programs are reported one by one, in order, with those that are right between them.
func TestDiagsOfPrograms(t *testing.T) {
	right := func(name string) string { return strings.Replace(simpleText, " c ", " "+name+" ", 1) }
	expectErrors(t, right("p")+"program a { var w packets 1 9 2; @var w none 0 0 0; window x; }"+right("q")+"program b { var w packets 1 9 2; @on mark { w = 1; } window w; } path p a back 1; @"+right("q")+"program d { @window w; }"+right("s"),
		api.ErrTwice, api.ErrUnit, api.ErrTwice, api.ErrName)
}

// P5.1: E2, with every field of a program.
func TestValid(t *testing.T) {
	base := func() api.Program {
		p := api.Program{Name: "c", Window: 1, Pace: 4, Vars: []api.Var{{Name: "n"}, {Name: "w", Unit: api.UnitPackets}, {Name: "b", Unit: api.UnitBytes}, {Name: "t", Unit: api.UnitTime}, {Name: "r", Unit: api.UnitRate}}}
		for i := range p.Vars {
			p.Vars[i].Low, p.Vars[i].Init, p.Vars[i].High = 2, 4, 8
		}
		p.On[api.OnMark] = []api.Stmt{assign(0, number(1, 0))}
		return p
	}
	expectValid := func(want bool, change func(p *api.Program)) {
		t.Helper()
		p := base()
		change(&p)
		if control.Valid(p) != want {
			t.Errorf("it is valid: %v: %s", !want, brief(p))
		}
	}
	expectValid(true, func(p *api.Program) {})
	expectValid(false, func(p *api.Program) { *p = api.Program{} })
	expectValid(false, func(p *api.Program) { p.Vars, p.Window, p.Pace = nil, -1, -1; p.On = [api.Events][]api.Stmt{} })
	expectValid(false, func(p *api.Program) { p.Vars, p.Window, p.Pace = nil, 0, -1; p.On = [api.Events][]api.Stmt{} })
	for _, name := range []string{"a", "z9_", "abcdefghijkl", "a_", "rtt_", "ifs", "link2", "s"} {
		expectValid(true, func(p *api.Program) { p.Name = name })
		expectValid(true, func(p *api.Program) { p.Vars[2].Name = name })
	}
	keys := strings.Fields("link rate delay room path back flow program paths size window start on pace tail early sojourn integral deficit dual var none packets bytes time ack loss mark timeout if else min max up acked rtt total")
	for _, name := range append(keys, "", "abcdefghijklm", "A", "aB", "_", "_a", "1", "1a", "a b", " a", "a ", "a\n", "a#", "a;", ";", "a}", "{", "a-b", "é", "aé", "a\x00", "\xff", "a packets 0 0 0; var q") {
		expectValid(false, func(p *api.Program) { p.Name = name })
		for i := range base().Vars {
			expectValid(false, func(p *api.Program) { p.Vars[i].Name = name })
		}
	}
	for i := range base().Vars {
		for k := range i {
			expectValid(false, func(p *api.Program) { p.Vars[i].Name = p.Vars[k].Name })
		}
		for _, unit := range []int{-1, 5, math.MinInt, math.MaxInt} {
			expectValid(false, func(p *api.Program) { p.Vars[i].Unit = unit })
		}
	}
	expectValid(true, func(p *api.Program) { p.Name = "w" })
}

// P5.1: the numbers of variables, and how many of these there are.
func TestValidRanges(t *testing.T) {
	some := []int{math.MinInt, -1, 0, 1, 2, 999999999, 1000000000, 1000000001, math.MaxInt}
	for _, low := range some {
		for _, first := range some {
			for _, high := range some {
				for last := range 2 {
					p := simple()
					p.Vars = append(p.Vars, api.Var{Name: "x"})
					p.Vars[last].Low, p.Vars[last].Init, p.Vars[last].High = low, first, high
					if want := 0 <= low && low <= first && first <= high && high <= 1000000000; control.Valid(p) != want {
						t.Errorf("it is valid: %v: %s", !want, brief(p))
					}
				}
			}
		}
	}
	p := simple()
	for count := 1; count <= 30; count++ {
		if want := count <= 12; control.Valid(p) != want {
			t.Errorf("%d variables are valid: %v", count, !want)
		}
		p.Vars = append(p.Vars, api.Var{Name: "v" + strconv.Itoa(count)})
	}
}

// P5.1: handlers of valid programs have no error.
func TestValidHandlers(t *testing.T) {
	one := number(1, 0)
	right := api.Stmt{Kind: api.StIf, Rel: api.RelOther, A: one, B: one}
	deep, sum := right, one
	for range 40 {
		deep = api.Stmt{Kind: api.StIf, Rel: api.RelLess, A: one, B: one, Then: []api.Stmt{deep}}
	}
	for range 30 {
		sum = with(api.ExAdd, sum, one)
	}
	for event := range api.Events {
		expectHandler := func(want bool, list ...api.Stmt) {
			t.Helper()
			p := simple()
			p.On[event] = list
			if control.Valid(p) != want {
				t.Errorf("it is valid: %v: %s", !want, brief(p))
			}
		}
		expectHandler(true)
		expectHandler(true, right, assign(0, number(2, 1)))
		// There may be more of these in each other than in a source.
		expectHandler(true, deep)
		expectHandler(true, slices.Repeat([]api.Stmt{right}, 100)...)
		expectHandler(false, slices.Repeat([]api.Stmt{right}, 101)...)
		expectHandler(true, assign(0, with(api.ExMul, number(1, 1), sum.Kids[0].Kids[0])))
		expectHandler(false, assign(0, with(api.ExMul, number(1, 1), sum)))
		for _, s := range []api.Stmt{{}, {Kind: 3}, assign(1, one), assign(-1, one), assign(0, one), assign(0, number(-1, 1)), assign(0, number(1000000001, 1)), assign(0, variable(1)), assign(0, input(4)),
			{Kind: api.StIf, Rel: 7, A: one, B: one}, {Kind: api.StIf, Rel: 1, A: one, B: variable(0)}} {
			expectHandler(false, s)
			expectHandler(false, right, s, right)
		}
	}
}

// P1: programs that contain themselves, or very many things.
func TestEndlessPrograms(t *testing.T) {
	e := api.Expr{Op: api.ExAdd, Kids: make([]api.Expr, 2)}
	e.Kids[0], e.Kids[1] = e, e
	s := api.Stmt{Kind: api.StIf, Rel: 1, A: number(1, 0), B: number(1, 0), Then: make([]api.Stmt, 2)}
	s.Then[0], s.Then[1] = s, s
	for _, x := range []api.Stmt{s, assign(0, e), {Kind: api.StIf, Rel: 1, A: number(1, 0), B: e}} {
		p := simple()
		p.On[api.OnPath] = []api.Stmt{x}
		if control.Valid(p) {
			t.Error("it is valid")
		}
	}
	p := simple()
	p.Vars = slices.Repeat(p.Vars, 1000000)
	if p.Window = 999999; control.Valid(p) {
		t.Error("a million variables are valid")
	}
	p = simple()
	p.Name = strings.Repeat("a", 10000000)
	if control.Valid(p) {
		t.Error("a long name is valid")
	}
}

// The rules: what one call returns does not change with what another one returned, nor with the tree.
func TestMemory(t *testing.T) {
	text := "program c { var w packets 1 9 2; var x none 0 1 0; on ack { if w < w + w { w = w; x = 1; } else { x = x * 2; } w = w; } window w; } program d { var w packets 1 9 2; on ack { w = w + w; } window w; }"
	n := parsed(t, text)
	first, _ := control.Build(n)
	second, _ := control.Build(n)
	scribble(first[0].On[api.OnAck])
	first[0].Vars[0] = api.Var{}
	if third, _ := control.Build(parsed(t, text)); !slices.EqualFunc(second, third, same) {
		t.Error("results share memory")
	}
	if !same(first[1], second[1]) {
		t.Error("programs of a result share memory")
	}
	if !sameNode(n, parsed(t, text)) {
		t.Error("the tree was modified")
	}
	diag := parsed(t, "program c { window w; }")
	_, diags := control.Build(diag)
	diags[0] = api.Diag{}
	if _, again := control.Build(diag); again[0] != (api.Diag{Err: api.ErrName, At: 12}) {
		t.Error("diagnostics share memory")
	}
}

// scribble overwrites statements, with those in them.
func scribble(list []api.Stmt) {
	for i := range list {
		for _, e := range []api.Expr{list[i].A, list[i].B} {
			for k := range e.Kids {
				e.Kids[k] = api.Expr{}
			}
		}
		scribble(list[i].Then)
		scribble(list[i].Else)
		list[i] = api.Stmt{}
	}
}

// P5.1: offsets are those of the tree, whatever they are.
func TestOffsets(t *testing.T) {
	n := source(named(api.NodeProgram, "c", 0, named(api.NodeUse, "w", 0)))
	for _, at := range []int{0, -1, 5, 100000, math.MinInt, math.MaxInt} {
		n.Kids[0].Kids[0].At = at
		if list, diags := control.Build(n); len(list) > 0 || !slices.Equal(diags, []api.Diag{{Err: api.ErrName, At: at}}) {
			t.Errorf("%v, %v", list, diags)
		}
	}
	if !parser.Valid(n) {
		t.Error("the tree is not valid")
	}
}
