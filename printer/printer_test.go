package printer_test

import (
	"fmt"
	"math"
	"slices"
	"strings"
	"testing"

	"queuelab/api"
	"queuelab/parser"
	"queuelab/printer"
)

// same reports whether two trees are the same, with their offsets.
func same(a, b api.Node) bool {
	return a.Kind == b.Kind && a.Name == b.Name && a.N == b.N && a.Unit == b.Unit && a.At == b.At && slices.EqualFunc(a.Kids, b.Kids, same)
}

// treeOf returns the tree of a source without diagnostics.
func treeOf(t *testing.T, source string) api.Node {
	t.Helper()
	n, diags := parser.Parse(source)
	if len(diags) > 0 {
		t.Fatalf("%.200q: %v", source, diags)
	}
	return n
}

// textOf returns the text of a source that has one.
func textOf(t *testing.T, n api.Node) string {
	t.Helper()
	text, err := printer.Source(n)
	if err != api.OK {
		t.Fatalf("%s: %v", brief(n), err)
	}
	return text
}

// brief returns what a message says of a node.
func brief(n api.Node) string {
	text := fmt.Sprintf("%+v", n)
	return text[:min(len(text), 500)]
}

func expectText(t *testing.T, source, want string) {
	t.Helper()
	if got, err := printer.Source(treeOf(t, source)); got != want || err != api.OK {
		t.Errorf("%.80q: %q, %v; want %q", source, got, err, want)
	}
}

func expectError(t *testing.T, call func(api.Node) (string, api.Errno), n api.Node, want api.Errno) {
	t.Helper()
	if text, err := call(n); text != "" || err != want {
		t.Errorf("%.200q, %v; want %v", text, err, want)
	}
}

func node(kind int, kids ...api.Node) api.Node { return api.Node{Kind: kind, Kids: kids} }
func word(name string) api.Node                { return api.Node{Kind: api.NodeName, Name: name} }
func number(n int) api.Node                    { return api.Node{Kind: api.NodeNumber, N: n} }
func source(items ...api.Node) api.Node        { return node(api.NodeSource, items...) }

func named(kind int, name string, kids ...api.Node) api.Node {
	return api.Node{Kind: kind, Name: name, Kids: kids}
}

// program returns one with a handler.
func program(stmts ...api.Node) api.Node {
	return named(api.NodeProgram, "c", node(api.NodeOn, stmts...), named(api.NodeUse, "w"))
}

// exprTree returns the tree of a source with an expression.
func exprTree(n api.Node) api.Node { return source(program(named(api.NodeAssign, "x", n))) }

// exprText returns the text of an expression.
func exprText(t *testing.T, n api.Node) string {
	t.Helper()
	text := textOf(t, exprTree(n))
	text, begun := strings.CutPrefix(text, "program c {\n  on ack {\n    x = ")
	text, ended := strings.CutSuffix(text, ";\n  }\n  window w;\n}\n")
	if !begun || !ended {
		t.Fatalf("%s: %q", brief(n), text)
	}
	return text
}

// P3.1, and the section Examples.
func TestExample(t *testing.T) {
	expectText(t, "program p{var w packets 1 9 1;on ack{if(acked)<2 packets{w=(w+1 packets)*2;}}window w;}",
		`program p {
  var w packets 1 9 1;
  on ack {
    if acked < 2 packets {
      w = (w + 1 packets) * 2;
    }
  }
  window w;
}
`)
}

// P3.1: items without braces.
func TestItems(t *testing.T) {
	expectText(t, "", "")
	expectText(t, " # nothing\n", "")
	for _, policy := range []string{"tail", "early 1 2 3", "sojourn 1 2", "integral 3 2 1", "deficit 1500", "dual 0 1000000000"} {
		text := "link l_0 rate 5 delay 0 room 1000000000 " + policy + ";"
		expectText(t, text, text+"\n")
		expectText(t, "\n\t"+strings.ReplaceAll(text, " ", "\n")+text, text+"\n"+text+"\n")
	}
	for _, text := range []string{"path p a back 0;", "path p a a b c back 12;", "flow f program c paths p size 1 window 2 start 3;", "flow f program c paths p q r size 0 window 0 start 1000000000;"} {
		expectText(t, text, text+"\n")
		expectText(t, strings.ReplaceAll(text, " ", " # gap\n")+"# end", text+"\n")
	}
}

// P3.1: the parts of programs, with all units and events.
func TestPrograms(t *testing.T) {
	expectText(t, "program c { window w ; }", "program c {\n  window w;\n}\n")
	expectText(t, "program c{window w;pace r;}", "program c {\n  window w;\n  pace r;\n}\n")
	expectText(t, "program c{window w;}program d{window w;}path p a back 1;", "program c {\n  window w;\n}\nprogram d {\n  window w;\n}\npath p a back 1;\n")
	for _, unit := range []string{"none", "packets", "bytes", "time", "rate"} {
		expectText(t, "program c{var x "+unit+" 1 22 0;var y none 0 0 0;window x;}", "program c {\n  var x "+unit+" 1 22 0;\n  var y none 0 0 0;\n  window x;\n}\n")
	}
	for _, event := range []string{"ack", "loss", "mark", "timeout", "path"} {
		expectText(t, "program c{var x none 0 1 0;on "+event+"{}on loss{x=1;}window x;}", "program c {\n  var x none 0 1 0;\n  on "+event+" {\n  }\n  on loss {\n    x = 1;\n  }\n  window x;\n}\n")
	}
}

// P3.1: statements, with all relations.
func TestStatements(t *testing.T) {
	begin, end := "program c {\n  on path {\n", "  }\n  window w;\n}\n"
	expectStmts := func(stmts, want string) {
		t.Helper()
		expectText(t, "program c{on path{"+stmts+"}window w;}", begin+want+end)
	}
	expectStmts("", "")
	expectStmts("x=y;y=x;", "    x = y;\n    y = x;\n")
	for _, relation := range []string{"<", "<=", ">", ">=", "==", "!="} {
		expectStmts("if a"+relation+"b{}", "    if a "+relation+" b {\n    }\n")
		expectStmts("if(a+1)"+relation+"(b*(c)){}else{x=1;}", "    if a + 1 "+relation+" b * c {\n    } else {\n      x = 1;\n    }\n")
	}
	expectStmts("if a<b{}else{}", "    if a < b {\n    } else {\n    }\n")
	expectStmts("if a<b{x=1;y=2;}z=3;", "    if a < b {\n      x = 1;\n      y = 2;\n    }\n    z = 3;\n")
	expectStmts("if a<b{if c<d{x=1;}}else{if e<f{}else{y=1;}}", "    if a < b {\n      if c < d {\n        x = 1;\n      }\n    } else {\n      if e < f {\n      } else {\n        y = 1;\n      }\n    }\n")

	// As deep as statements can be.
	stmts, want := "x=1;", margin(26)+"x = 1;\n"
	for blanks := 24; blanks >= 4; blanks -= 2 {
		stmts, want = "if a<b{"+stmts+"}", margin(blanks)+"if a < b {\n"+want+margin(blanks)+"}\n"
	}
	expectStmts(stmts, want)
}

func margin(blanks int) string { return strings.Repeat(" ", blanks) }

// P3.1: numbers and names.
func TestFactors(t *testing.T) {
	for text, want := range map[string]string{"5": "5", "5 none": "5", "0 packets": "0 packets", "7 bytes": "7 bytes", "1 time": "1 time", "1000000000 rate": "1000000000 rate",
		"(a)": "a", "((w_1))": "w_1", "acked": "acked", "rtt": "rtt", "size": "size", "((total))": "total",
		"up(a,b)": "up(a, b)", "min((1 none),2 time)": "min(1, 2 time)", "max( min(a,b) ,(up(1,c)))": "max(min(a, b), up(1, c))"} {
		if got := exprText(t, treeOf(t, "program c{on ack{x="+text+";}window w;}").Kids[0].Kids[0].Kids[0].Kids[0]); got != want {
			t.Errorf("%q: %q; want %q", text, got, want)
		}
	}
}

// P3.1: where parentheses stand around operands, for all operations in each other.
func TestParentheses(t *testing.T) {
	signs := map[int]string{api.NodeAdd: " + ", api.NodeSub: " - ", api.NodeMul: " * ", api.NodeDiv: " / "}
	functions := map[int]string{api.NodeUp: "up(", api.NodeMin: "min(", api.NodeMax: "max("}
	write := func(kind int, left, right string) string {
		if sign, ok := signs[kind]; ok {
			return left + sign + right
		}
		return functions[kind] + left + ", " + right + ")"
	}
	sums, products := []int{api.NodeAdd, api.NodeSub}, []int{api.NodeMul, api.NodeDiv}
	for outer := api.NodeAdd; outer <= api.NodeMax; outer++ {
		for inner := api.NodeAdd; inner <= api.NodeMax; inner++ {
			text := write(inner, "a", "1 time")
			left, right := text, text
			both := slices.Contains(sums, outer) && slices.Contains(sums, inner) || slices.Contains(products, outer) && slices.Contains(products, inner)
			if slices.Contains(products, outer) && slices.Contains(sums, inner) {
				left, right = "("+text+")", "("+text+")"
			} else if both {
				right = "(" + text + ")"
			}
			kid := node(inner, word("a"), api.Node{Kind: api.NodeNumber, N: 1, Unit: api.UnitTime})
			for want, n := range map[string]api.Node{
				write(outer, left, "b"): node(outer, kid, word("b")), write(outer, "b", right): node(outer, word("b"), kid), write(outer, left, right): node(outer, kid, kid),
			} {
				if got := exprText(t, n); got != want {
					t.Errorf("%q; want %q", got, want)
				}
			}
		}
	}
}

// P3.1: the offsets of a tree do not matter, and a printed tree is left as it was.
func TestOffsets(t *testing.T) {
	manyTexts(1, func(m maker, marked string) {
		tree := treeOf(t, m.other(t, marked))
		moved, before := withOffsets(m, tree), parser.Strip(tree)
		if text := textOf(t, moved); text != canonical(marked) {
			t.Fatalf("%q; want %q", text, canonical(marked))
		}
		if !same(parser.Strip(moved), before) {
			t.Fatalf("%q: the tree was modified", canonical(marked))
		}
	})
}

// withOffsets returns a tree with any offsets.
func withOffsets(m maker, n api.Node) api.Node {
	n.At = pick(m.Rand, 0, -1, 1, 100000, math.MinInt, math.MaxInt)
	n.Kids = slices.Clone(n.Kids)
	for i := range n.Kids {
		n.Kids[i] = withOffsets(m, n.Kids[i])
	}
	return n
}

// P1 and P3.1: nodes that are no valid trees, or no valid items.
func TestWrongNodes(t *testing.T) {
	x, one := word("x"), number(1)
	path := named(api.NodePath, "p", x, one)
	for _, n := range []api.Node{
		{}, x, one, node(-1), node(22), node(math.MaxInt), node(math.MinInt), named(api.NodePath, "p"), named(api.NodePath, "p", one), named(api.NodePath, "if", x, one),
		named(api.NodePath, "", x, one), named(api.NodePath, "p", x, number(-1)), named(api.NodePath, "p", x, number(1000000001)), named(api.NodePath, "abcdefghijklm", x, one),
		named(api.NodeLink, "l", one, one, one), named(api.NodeLink, "l", one, one, one, node(api.NodePolicy)), named(api.NodeLink, "l", one, one, one, api.Node{Kind: api.NodePolicy, N: 7}),
		named(api.NodeLink, "l", one, one, one, api.Node{Kind: api.NodePolicy, N: api.PolTail, Kids: []api.Node{one}}),
		named(api.NodeFlow, "f"), named(api.NodeFlow, "f", x, one, one, one), named(api.NodeFlow, "f", x, x, one, one), named(api.NodeProgram, "c"), named(api.NodeProgram, "rtt", named(api.NodeUse, "w")),
		named(api.NodeProgram, "c", api.Node{Kind: api.NodeUse, N: 1, Name: "w"}), named(api.NodeProgram, "c", api.Node{Kind: api.NodeOn, N: 5}, named(api.NodeUse, "w")),
		named(api.NodeProgram, "c", api.Node{Kind: api.NodeVar, N: 5, Name: "x", Kids: []api.Node{one, one, one}}, named(api.NodeUse, "w")),
		named(api.NodeAssign, "x", x), named(api.NodeUse, "w"), node(api.NodeAdd, x, x), node(api.NodeBlock), node(api.NodeOn), api.Node{Kind: api.NodePolicy, N: 1},
		program(named(api.NodeAssign, "x")), program(named(api.NodeAssign, "x", x, x)), program(node(api.NodeIf, x, x, node(api.NodeBlock))), program(api.Node{Kind: api.NodeIf, N: 1, Kids: []api.Node{x, x}}),
		program(named(api.NodeAssign, "x", node(api.NodeAdd))), program(named(api.NodeAssign, "x", node(api.NodeMin, x))), program(named(api.NodeAssign, "x", api.Node{Kind: api.NodeNumber, Unit: 5})),
	} {
		for _, wrong := range []api.Node{source(n), source(path, n), source(n, path), n} {
			expectError(t, printer.Source, wrong, api.ErrArg)
			expectError(t, printer.Item, wrong, api.ErrArg)
		}
	}
	// A source is no item, and an item no source.
	expectError(t, printer.Item, source(path), api.ErrArg)
	expectError(t, printer.Item, source(), api.ErrArg)
	expectError(t, printer.Source, path, api.ErrArg)
	for _, n := range []api.Node{{Kind: api.NodeSource, Name: "a"}, {Kind: api.NodeSource, N: 1}, {Kind: api.NodeSource, Unit: 1}} {
		expectError(t, printer.Source, n, api.ErrArg)
	}
}

// P1: nodes that contain themselves.
func TestEndless(t *testing.T) {
	for kids := 1; kids < 5; kids++ {
		for kind := range 23 {
			n := api.Node{Kind: kind, Name: "a", Kids: make([]api.Node, kids)}
			for i := range n.Kids {
				n.Kids[i] = n
			}
			for _, wrong := range []api.Node{n, source(n), exprTree(n), source(program(n))} {
				expectError(t, printer.Source, wrong, api.ErrArg)
				expectError(t, printer.Item, wrong, api.ErrArg)
			}
		}
	}
}

// longPath returns a path whose text has so many bytes.
func longPath(bytes int) api.Node {
	n := named(api.NodePath, "p")
	left := bytes - len("path p back 1;\n")
	for left > 0 {
		// What is left for the last name is not a blank alone.
		length := min(left, 13)
		if left == 14 {
			length = 12
		}
		n.Kids = append(n.Kids, word(strings.Repeat("a", length-1)))
		left -= length
	}
	n.Kids = append(n.Kids, number(1))
	return n
}

// P3.1: at most 10000 bytes.
func TestLongTexts(t *testing.T) {
	for bytes := 9900; bytes < 10100; bytes++ {
		n := longPath(bytes)
		if bytes > 10000 {
			expectError(t, printer.Item, n, api.ErrLimit)
			expectError(t, printer.Source, source(n), api.ErrLimit)
			continue
		}
		text, err := printer.Item(n)
		if len(text) != bytes || err != api.OK || text != textOf(t, source(n)) {
			t.Errorf("%d bytes: %d, %v", bytes, len(text), err)
		}
		// What counts is all of the source.
		last := longPath(10000 - bytes + 30)
		if text, err = printer.Item(last); len(text) != 10000-bytes+30 || err != api.OK {
			t.Errorf("%d bytes: %d, %v", 10000-bytes+30, len(text), err)
		}
		expectError(t, printer.Source, source(n, last), api.ErrLimit)
	}
	// The blanks at the beginnings of lines count.
	deep := api.Node{Kind: api.NodeIf, N: api.RelLess, Kids: []api.Node{word("a"), word("b"), node(api.NodeBlock)}}
	for range 11 {
		deep = api.Node{Kind: api.NodeIf, N: api.RelLess, Kids: []api.Node{word("a"), word("b"), node(api.NodeBlock, deep)}}
	}
	text := textOf(t, source(program(deep)))
	if want := 2*12*(4+26)/2 + 12*len("if a < b {\n}\n") + len("program c {\n  on ack {\n  }\n  window w;\n}\n"); len(text) != want {
		t.Errorf("%d bytes; want %d: %q", len(text), want, text)
	}
	fits := 10000 / len(text)
	if got := textOf(t, source(slices.Repeat([]api.Node{program(deep)}, fits)...)); len(got) != fits*len(text) {
		t.Errorf("%d bytes", len(got))
	}
	expectError(t, printer.Source, source(slices.Repeat([]api.Node{program(deep)}, fits+1)...), api.ErrLimit)
}

// P1 and P3.1: a node that is not valid is reported before a text that is too long; an item has at most 2499 nodes, as a source has one more.
func TestOrderOfErrors(t *testing.T) {
	long, x := longPath(20000), named(api.NodePath, "x")
	expectError(t, printer.Source, source(long), api.ErrLimit)
	expectError(t, printer.Source, source(long, x), api.ErrArg)
	expectError(t, printer.Source, source(x, long), api.ErrArg)
	expectError(t, printer.Source, long, api.ErrArg)
	expectError(t, printer.Item, source(long), api.ErrArg)

	path := func(links int, name string) api.Node {
		return named(api.NodePath, "p", append(slices.Repeat([]api.Node{word(name)}, links), number(1))...)
	}
	if text, err := printer.Item(path(2497, "a")); len(text) != 6+2*2497+9 || err != api.OK {
		t.Errorf("2499 nodes: %d bytes, %v", len(text), err)
	}
	expectError(t, printer.Item, path(2498, "a"), api.ErrArg)
	expectError(t, printer.Source, source(path(2498, "a")), api.ErrArg)
	expectError(t, printer.Item, path(2497, "abcdefghijkl"), api.ErrLimit)
	expectError(t, printer.Item, path(2498, "abcdefghijkl"), api.ErrArg)
}
