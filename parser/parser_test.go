package parser_test

import (
	"slices"
	"strings"
	"testing"

	"queuelab/api"
	"queuelab/parser"
)

// same reports whether two trees are the same, with their offsets.
func same(a, b api.Node) bool {
	return a.Kind == b.Kind && a.Name == b.Name && a.N == b.N && a.Unit == b.Unit && a.At == b.At && slices.EqualFunc(a.Kids, b.Kids, same)
}

func node(kind, at int, kids ...api.Node) api.Node { return api.Node{Kind: kind, At: at, Kids: kids} }
func number(n, at int) api.Node                    { return api.Node{Kind: api.NodeNumber, N: n, At: at} }
func word(name string, at int) api.Node            { return api.Node{Kind: api.NodeName, Name: name, At: at} }

func amount(n, unit, at int) api.Node {
	return api.Node{Kind: api.NodeNumber, N: n, Unit: unit, At: at}
}

func named(kind int, name string, n, at int, kids ...api.Node) api.Node {
	return api.Node{Kind: kind, Name: name, N: n, At: at, Kids: kids}
}

func counted(kind, n, at int, kids ...api.Node) api.Node {
	return api.Node{Kind: kind, N: n, At: at, Kids: kids}
}

func expectTree(t *testing.T, source string, items ...api.Node) {
	t.Helper()
	want := node(api.NodeSource, 0, items...)
	if got, diags := parser.Parse(source); len(diags) > 0 || !same(got, want) {
		t.Errorf("%.80q: %v, %v; want %v", source, got, diags, want)
	}
}

// expectRight checks that a source has no diagnostics.
func expectRight(t *testing.T, source string) api.Node {
	t.Helper()
	n, diags := parser.Parse(source)
	if len(diags) > 0 || n.Kind != api.NodeSource {
		t.Errorf("%.80q: %v", source, diags)
	}
	return n
}

func expectDiags(t *testing.T, source string, want ...api.Diag) {
	t.Helper()
	n, diags := parser.Parse(source)
	if !slices.Equal(diags, want) || len(want) == 0 || !same(n, api.Node{}) {
		t.Errorf("%.80q: %v, %v; want %v", source, n.Kind, diags, want)
	}
}

func wrong(at int) api.Diag   { return api.Diag{Err: api.ErrSyntax, At: at} }
func tooDeep(at int) api.Diag { return api.Diag{Err: api.ErrLimit, At: at} }

// expectWrong checks that a source has ErrSyntax at some offsets.
func expectWrong(t *testing.T, source string, at ...int) {
	t.Helper()
	var want []api.Diag
	for _, x := range at {
		want = append(want, wrong(x))
	}
	expectDiags(t, source, want...)
}

// P2.1, and the section Examples.
func TestExamples(t *testing.T) {
	expectTree(t, "path p a back 5;", named(api.NodePath, "p", 0, 0, word("a", 7), number(5, 14)))
	product := node(api.NodeMul, 50, amount(1, api.UnitPackets, 50), number(2, 62))
	sum := node(api.NodeAdd, 46, word("w", 46), product)
	expectTree(t, "program c { var w packets 1 9 1; on ack { w = w + 1 packets * 2; } window w; }",
		named(api.NodeProgram, "c", 0, 0,
			named(api.NodeVar, "w", api.UnitPackets, 12, number(1, 26), number(9, 28), number(1, 30)),
			counted(api.NodeOn, api.OnAck, 33, named(api.NodeAssign, "w", 0, 42, sum)),
			named(api.NodeUse, "w", 0, 67)))
	expectWrong(t, "path p; flow f", 6, 14)
	expectWrong(t, "program c { on ack { x = ; } window x; } path p a back 5", 25, 56)
}

// P2.1: links with all policies.
func TestLinks(t *testing.T) {
	policies := []struct {
		text    string
		numbers int
	}{{"tail", 0}, {"early", 3}, {"sojourn", 2}, {"integral", 3}, {"deficit", 1}, {"dual", 2}}
	begin := "link l rate 5 delay 0 room 1000000000 "
	for i, x := range policies {
		policy := counted(api.NodePolicy, api.PolTail+i, len(begin))
		text := begin + x.text
		for range x.numbers {
			text += " 7"
			policy.Kids = append(policy.Kids, number(7, len(text)-1))
			expectWrong(t, text[:len(text)-2]+";", len(text)-2)
			expectWrong(t, text[:len(text)-2], len(text)-2)
		}
		expectTree(t, text+";", named(api.NodeLink, "l", 0, 0, number(5, 12), number(0, 20), number(1000000000, 27), policy))
		expectWrong(t, text+" 7;", len(text)+1)
		expectWrong(t, text+" packets;", len(text)+1)
	}
	expectWrong(t, begin+";", len(begin))
	expectWrong(t, begin+"none;", len(begin))
	expectWrong(t, "link l rate 5 packets delay 0 room 1 tail;", 14)
	expectWrong(t, "link l delay 0 rate 5 room 1 tail;", 7)
	expectWrong(t, "link l rate x delay 0 room 1 tail;", 12)
	expectWrong(t, "link 5 rate 5 delay 0 room 1 tail;", 5)
	expectWrong(t, "link l rate -5 delay 0 room 1 tail;", 12)
}

// P2.1: paths and flows.
func TestPathsAndFlows(t *testing.T) {
	expectTree(t, "path p a b a back 0;", named(api.NodePath, "p", 0, 0, word("a", 7), word("b", 9), word("a", 11), number(0, 18)))
	expectTree(t, " flow f program c paths p q size 1 window 2 start 3;",
		named(api.NodeFlow, "f", 0, 1, word("c", 16), word("p", 24), word("q", 26), number(1, 33), number(2, 42), number(3, 50)))
	expectTree(t, "flow f program c paths p size 1 window 2 start 3;",
		named(api.NodeFlow, "f", 0, 0, word("c", 15), word("p", 23), number(1, 30), number(2, 39), number(3, 47)))
	expectWrong(t, "path p back 5;", 7)
	expectWrong(t, "path p a;", 8)
	expectWrong(t, "path p a back;", 13)
	expectWrong(t, "path p a back 5 6;", 16)
	expectWrong(t, "path p a rtt back 5;", 9)
	expectWrong(t, "path p a, b back 5;", 8)
	expectWrong(t, "flow f program c paths size 1 window 2 start 3;", 23)
	expectWrong(t, "flow f paths p program c size 1 window 2 start 3;", 7)
	expectWrong(t, "flow f program c d paths p size 1 window 2 start 3;", 17)
	expectWrong(t, "flow f program c paths p size 1 window 2;", 40)
}

// P2.1: the parts of programs.
func TestPrograms(t *testing.T) {
	expectTree(t, "program c{window w;}", named(api.NodeProgram, "c", 0, 0, named(api.NodeUse, "w", 0, 10)))
	expectTree(t, "program c{window w;pace v;}", named(api.NodeProgram, "c", 0, 0, named(api.NodeUse, "w", 0, 10), named(api.NodeUse, "v", 1, 19)))
	for i, unit := range []string{"none", "packets", "bytes", "time", "rate"} {
		at := 16 + len(unit)
		expectTree(t, "program c{var x "+unit+" 1 2 3;window w;}", named(api.NodeProgram, "c", 0, 0,
			named(api.NodeVar, "x", i, 10, number(1, at+1), number(2, at+3), number(3, at+5)), named(api.NodeUse, "w", 0, at+7)))
	}
	for i, event := range []string{"ack", "loss", "mark", "timeout", "path"} {
		expectTree(t, "program c{on "+event+"{}window w;}", named(api.NodeProgram, "c", 0, 0,
			counted(api.NodeOn, i, 10), named(api.NodeUse, "w", 0, 15+len(event))))
	}
	// The grammar lets events and names occur twice.
	expectRight(t, "program c { var x none 1 1 1; var x none 1 1 1; on ack { } on ack { } window x; pace x; }")
	expectWrong(t, "program c { }", 12)
	expectWrong(t, "program c { pace w; window w; }", 12)
	expectWrong(t, "program c { window w; window w; }", 22)
	expectWrong(t, "program c { window w; pace w; pace w; }", 30)
	expectWrong(t, "program c { window w; on ack { } }", 22)
	expectWrong(t, "program c { on ack { } var x none 1 1 1; window w; }", 23)
	expectWrong(t, "program c { on start { } window w; }", 15)
	expectWrong(t, "program c { on ack x = 1; window w; }", 19)
	expectWrong(t, "program c { var x rtt 1 1 1; window w; }", 18)
	expectWrong(t, "program c { var x none 1 1; window w; }", 26)
	expectWrong(t, "program c { var x none 1 1 1 1; window w; }", 29)
	expectWrong(t, "program c { var x none 1 bytes 1 1; window w; }", 25)
	expectWrong(t, "program c { window 1; }", 19)
	expectWrong(t, "program c window w;", 10)
}

// handler is what stands before the statements of a program, and 21 bytes long.
const handler = "program c { on ack { "

// inHandler returns a program with a statement at 21.
func inHandler(stmts string) string { return handler + stmts + " } window w; }" }

func expectStmt(t *testing.T, text string, want api.Node) {
	t.Helper()
	source := inHandler(text)
	expectTree(t, source, named(api.NodeProgram, "c", 0, 0, counted(api.NodeOn, api.OnAck, 12, want), named(api.NodeUse, "w", 0, 24+len(text))))
}

// P2.1: statements.
func TestStatements(t *testing.T) {
	expectStmt(t, "x = 1;", named(api.NodeAssign, "x", 0, 21, number(1, 25)))
	for i, relation := range []string{"<", "<=", ">", ">=", "==", "!="} {
		k := len(relation)
		expectStmt(t, "if a"+relation+"1 time{}", counted(api.NodeIf, api.RelLess+i, 21, word("a", 24), amount(1, api.UnitTime, 25+k), node(api.NodeBlock, 31+k)))
	}
	expectStmt(t, "if a < b { x = 1; y = 2; } else { }", counted(api.NodeIf, api.RelLess, 21, word("a", 24), word("b", 28),
		node(api.NodeBlock, 30, named(api.NodeAssign, "x", 0, 32, number(1, 36)), named(api.NodeAssign, "y", 0, 39, number(2, 43))),
		node(api.NodeBlock, 53)))
	for _, text := range []string{"x 1;", "x = ", "x = ;", "x == 1;", "rtt = 1;", "w = 1, 2;", "1 = 1;", "window = 1;"} {
		_, diags := parser.Parse(inHandler(text))
		if len(diags) != 1 || diags[0].Err != api.ErrSyntax {
			t.Errorf("%q: %v", text, diags)
		}
	}
	expectWrong(t, inHandler("if a { }"), 26)
	expectWrong(t, inHandler("if a = b { }"), 26)
	expectWrong(t, inHandler("if a < b < c { }"), 30)
	expectWrong(t, inHandler("if (a < b) { }"), 27)
	expectWrong(t, inHandler("if a < b x = 1;"), 30)
	expectWrong(t, inHandler("if a < b { } else if a < c { }"), 39)
	expectWrong(t, inHandler("if a < b { } else { } else { }"), 43)
	expectWrong(t, inHandler("else { }"), 21)
	expectWrong(t, inHandler("{ x = 1; }"), 21)
	expectWrong(t, inHandler(";"), 21)
}

func expectExpr(t *testing.T, text string, want api.Node) {
	t.Helper()
	expectStmt(t, "x="+text+";", named(api.NodeAssign, "x", 0, 21, want))
}

// P2.1: expressions.
func TestExpressions(t *testing.T) {
	a, b, c := word("a", 23), word("b", 25), word("c", 27)
	for i, unit := range []string{"none", "packets", "bytes", "time", "rate"} {
		expectExpr(t, "7 "+unit, amount(7, i, 23))
		expectExpr(t, "7"+unit+"+b", node(api.NodeAdd, 23, amount(7, i, 23), word("b", 25+len(unit))))
	}
	for _, input := range []string{"acked", "rtt", "size", "total"} {
		expectExpr(t, input, word(input, 23))
	}
	operators := []string{"+", "-", "*", "/"}
	for i, first := range operators {
		expectExpr(t, "a"+first+"b", node(api.NodeAdd+i, 23, a, b))
		for k, second := range operators {
			want := node(api.NodeAdd+k, 23, node(api.NodeAdd+i, 23, a, b), c)
			if i < 2 && k >= 2 {
				want = node(api.NodeAdd+i, 23, a, node(api.NodeAdd+k, 25, b, c))
			}
			expectExpr(t, "a"+first+"b"+second+"c", want)
			expectExpr(t, "(a"+first+"b)"+second+"c", node(api.NodeAdd+k, 23, node(api.NodeAdd+i, 24, word("a", 24), word("b", 26)), word("c", 29)))
			expectExpr(t, "a"+first+"(b"+second+"c)", node(api.NodeAdd+i, 23, a, node(api.NodeAdd+k, 26, word("b", 26), word("c", 28))))
		}
	}
	for i, function := range []string{"up", "min", "max"} {
		at := 23 + len(function)
		expectExpr(t, function+"(a,b)", node(api.NodeUp+i, 23, word("a", at+1), word("b", at+3)))
		expectWrong(t, inHandler("x="+function+"(a);"), at+2)
		expectWrong(t, inHandler("x="+function+"(a,b,c);"), at+4)
		expectWrong(t, inHandler("x="+function+"(,b);"), at+1)
		expectWrong(t, inHandler("x="+function+" a;"), at+1)
	}
	// The parentheses around all of an expression do not belong to it; those around its left operand do.
	expectExpr(t, "((a))", word("a", 25))
	expectExpr(t, "((a+b)*2)", node(api.NodeMul, 24, node(api.NodeAdd, 25, word("a", 25), word("b", 27)), number(2, 30)))
	expectExpr(t, "((a))+b", node(api.NodeAdd, 23, word("a", 25), word("b", 29)))
	for text, at := range map[string]int{"()": 24, "(a": 25, "a)": 24, "a b": 25, "a+": 25, "+a": 23, "-1": 23, "a packets": 25, "1 packets packets": 33, "rate": 23, "(1)packets": 26, "if": 23, "a++b": 25, "min": 26} {
		expectWrong(t, inHandler("x="+text+";"), at)
	}
}

// P2.1: key words are no names, and names that only begin like them are.
func TestKeyWords(t *testing.T) {
	keys := strings.Fields("link rate delay room path back flow program paths size window start pace tail early sojourn integral deficit dual var none packets bytes time on ack loss mark timeout if else min max up acked rtt total")
	for _, key := range keys {
		expectWrong(t, "path "+key+" a back 1;", 5)
		expectWrong(t, inHandler(key+"=1;"), 21+map[bool]int{true: 2}[key == "if"])
		if len(key) < api.MaxName {
			expectTree(t, "path "+key+"0 a back 1;", named(api.NodePath, key+"0", 0, 0, word("a", 7+len(key)), number(1, 14+len(key))))
		}
	}
}

// P2.1: where a wrong item ends.
func TestLeaving(t *testing.T) {
	right := " path p a back 1;"
	for _, c := range []struct {
		source string
		at     []int
	}{
		{"x;", []int{0}}, {"x", []int{0}}, {";", []int{0}}, {"}", []int{0}}, {"{ }", []int{0}}, {"{ ; { ; } ; }", []int{0}},
		{"} ;", []int{0, 2}}, {"x } ;", []int{0, 4}}, {"x { } } ;", []int{0, 6, 8}}, {"x { ; } y;", []int{0, 8}}, {"x { { } y; }", []int{0}}, {"; ; ;", []int{0, 2, 4}},
		{"path p a b path q;", []int{11}}, {"path p a }", []int{9}}, {"path p { a; b; } c;", []int{7, 17}}, {"path p { a;", []int{7}},
		{"program c ; x;", []int{10, 12}}, {"program c } x;", []int{10, 12}}, {"program c { ; } x;", []int{12, 16}}, {"program c { } x;", []int{12, 14}},
		{"program c { on ack { ; } ; } x;", []int{21, 29}}, {"program c { on ack { } } x;", []int{23, 25}}, {"program c { on ack { } ; } x;", []int{23, 27}},
		{"program c { on ack { if a < b { } } ; } x;", []int{36, 40}}, {"program c { on ack { if a < b { ; } x; } x; } x;", []int{32, 46}},
		{"program c { { } { { } } ; } x;", []int{12, 28}}, {"program c { window w; } } x;", []int{24, 26}}, {"program c { window w; };", []int{23}},
		{"program c { on ack { x = 1; window w; }", []int{28}},
	} {
		expectWrong(t, c.source, c.at...)
		// An item that comes to no end swallows everything; any other one leaves what follows as it is.
		last := c.source[len(c.source)-1]
		if (last == ';' || last == '}') && strings.Count(c.source, "{") <= strings.Count(c.source, "}") {
			expectWrong(t, c.source+right, c.at...)
			expectWrong(t, c.source+right+" 5;", append(slices.Clone(c.at), len(c.source)+len(right)+1)...)
		}
	}
	// The length of the source counts, not the end of the last token.
	expectWrong(t, "path p a # end \n ", 17)
	expectWrong(t, "x path p a back 1", 0)
}

// P2.1: an error of the lexer is the only one.
func TestLexerErrors(t *testing.T) {
	expectDiags(t, "path; x A", wrong(8))
	expectDiags(t, "path; x abcdefghijklm", api.Diag{Err: api.ErrRange, At: 8})
	expectDiags(t, "path p a back 1000000001;", api.Diag{Err: api.ErrRange, At: 14})
	expectDiags(t, "path; 007", wrong(6))
	expectDiags(t, "x"+strings.Repeat(" ", 10000), tooDeep(0))
	expectDiags(t, strings.Repeat("path;", 1500)+" x", tooDeep(7501))
}

// P2.1: at most 20 diagnostics.
func TestManyDiags(t *testing.T) {
	var want []int
	for k := range 20 {
		want = append(want, 5*k+4)
		source := strings.Repeat("path;", k+1)
		expectWrong(t, source, want...)
		expectWrong(t, source+"path p a back 1;", want...)
	}
	expectWrong(t, strings.Repeat("path;", 21), want...)
	expectWrong(t, strings.Repeat("path;", 20)+"program c {", want...)
	expectWrong(t, strings.Repeat("path;", 1500), want...)
}

// P2.1: at most 2500 nodes, unless there are diagnostics.
func TestManyNodes(t *testing.T) {
	path := func(links int) string { return "path p" + strings.Repeat(" a", links) + " back 1;" }
	full := expectRight(t, path(2497))
	if !parser.Valid(full) || len(full.Kids[0].Kids) != 2498 {
		t.Error("2500 nodes are not too many")
	}
	expectDiags(t, path(2498), tooDeep(0))
	expectDiags(t, "# gap\n"+path(2498), tooDeep(0))
	expectDiags(t, path(2497)+"link l rate 1 delay 1 room 1 tail;", tooDeep(0))
	expectWrong(t, path(2498)+"x", 5010)
	expectWrong(t, "x;"+path(2498), 0)
	expectRight(t, inHandler("x = 1"+strings.Repeat("+1", 1240)+";"))
	expectDiags(t, inHandler("x = 1"+strings.Repeat("+1", 1250)+";"), tooDeep(0))
	full.Kids[0].Kids = append([]api.Node{word("a", 0)}, full.Kids[0].Kids...)
	if parser.Valid(full) {
		t.Error("2501 nodes are too many")
	}
}
