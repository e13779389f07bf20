package parser_test

import (
	"math/rand"
	"slices"
	"strings"
	"testing"

	"queuelab/api"
	"queuelab/lexer"
	"queuelab/parser"
)

// rightSources calls f with sources without diagnostics, and with their trees, as they must be.
func rightSources(seed int64, f func(r *rand.Rand, source string, tree api.Node)) {
	r := rand.New(rand.NewSource(seed))
	for range 1500 {
		source, tree := anyText(r, anyTree(r, r.Intn(5)))
		f(r, source, tree)
	}
}

// preorder calls f with each node of a tree, each one before those below it.
func preorder(n api.Node, f func(api.Node)) {
	f(n)
	for _, k := range n.Kids {
		preorder(k, f)
	}
}

// later returns a tree with offsets that are greater by some bytes, except for that of the source.
func later(n api.Node, by int) api.Node {
	if n.Kind != api.NodeSource {
		n.At += by
	}
	kids := n.Kids
	n.Kids = nil
	for _, k := range kids {
		n.Kids = append(n.Kids, later(k, by))
	}
	return n
}

// P2.2: the tree of each text is the one that was written, with its offsets; it is valid.
func TestTreesOfTexts(t *testing.T) {
	rightSources(11, func(r *rand.Rand, source string, tree api.Node) {
		got, diags := parser.Parse(source)
		if len(diags) > 0 || !same(got, tree) || !parser.Valid(got) {
			t.Fatalf("%q: %v, %v; want %v", source, got, diags, tree)
		}
	})
}

// firstWord returns what the first token of a node is, apart from parentheses: its text, or - for a name and 0 for a number.
func firstWord(n api.Node) string {
	switch n.Kind {
	case api.NodeNumber:
		return "0"
	case api.NodeName, api.NodeAssign:
		return "-"
	case api.NodePolicy:
		return policyList[n.N]
	case api.NodeUse:
		return []string{"window", "pace"}[n.N]
	case api.NodeAdd, api.NodeSub, api.NodeMul, api.NodeDiv:
		return firstWord(n.Kids[0])
	}
	return []string{api.NodeLink: "link", api.NodePath: "path", api.NodeFlow: "flow", api.NodeProgram: "program", api.NodeVar: "var",
		api.NodeOn: "on", api.NodeIf: "if", api.NodeBlock: "{", api.NodeUp: "up", api.NodeMin: "min", api.NodeMax: "max"}[n.Kind]
}

// P2.2: the offsets, checked against the tokens of the source.
func TestOffsets(t *testing.T) {
	rightSources(12, func(r *rand.Rand, source string, tree api.Node) {
		tokens, _, _ := lexer.Lex(source)
		place := map[int]int{}
		for i, x := range tokens {
			place[x.At] = i
		}
		got, last := expectRight(t, source), 0
		preorder(got, func(n api.Node) {
			if n.At < last || n.Kind == api.NodeSource && n.At > 0 {
				t.Fatalf("%q: a node of the kind %d at %d, after %d", source, n.Kind, n.At, last)
			}
			last = n.At
			i, ok := place[n.At]
			if !ok && n.Kind != api.NodeSource {
				t.Fatalf("%q: no token at %d", source, n.At)
			}
			for n.Kind != api.NodeSource && tokens[i].Text == "(" {
				i++
			}
			if n.Kind != api.NodeSource && !fits(n, tokens[i]) {
				t.Fatalf("%q: a node of the kind %d at %d", source, n.Kind, n.At)
			}
		})
	})
}

// fits reports whether a token can be the first one of a node.
func fits(n api.Node, x api.Token) bool {
	switch want := firstWord(n); want {
	case "0":
		return x.Kind == api.TokNumber
	case "-":
		return x.Kind == api.TokName
	default:
		return x.Text == want
	}
}

// P2.3: gaps change nothing but offsets.
func TestGaps(t *testing.T) {
	r := rand.New(rand.NewSource(13))
	for range 1500 {
		source, _ := anyText(r, anyTree(r, r.Intn(5)))
		tokens := tokensOf(t, source)
		for range r.Intn(4) {
			tokens = changed(r, tokens)
		}
		plain := strings.Join(tokens, " ")
		first, firstDiags := parser.Parse(plain)
		for range 3 {
			source = spaced(r, tokens)
			n, diags := parser.Parse(source)
			if !same(parser.Strip(n), parser.Strip(first)) || !slices.Equal(errors(diags), errors(firstDiags)) {
				t.Fatalf("%q: %v; %q: %v", plain, firstDiags, source, diags)
			}
		}
	}
}

func errors(diags []api.Diag) []api.Errno {
	var list []api.Errno
	for _, d := range diags {
		list = append(list, d.Err)
	}
	return list
}

// P2.4: a text of a tree parses to it, with and without further parentheses.
func TestTexts(t *testing.T) {
	r := rand.New(rand.NewSource(14))
	for range 1500 {
		tree := anyTree(r, r.Intn(5))
		if !parser.Valid(tree) {
			t.Fatalf("%v is not valid", tree)
		}
		further, _ := anyText(r, tree)
		for _, source := range []string{plainText(tree), further} {
			if got := parser.Strip(expectRight(t, source)); !same(got, tree) {
				t.Fatalf("%q: %v; want %v", source, got, tree)
			}
		}
	}
}

// P2.4: parentheses around an operand without which the tree would be another one.
func TestNeededParentheses(t *testing.T) {
	a := api.Node{Kind: api.NodeName, Name: "a"}
	for outer := api.NodeAdd; outer <= api.NodeMax; outer++ {
		for inner := api.NodeAdd; inner <= api.NodeMax; inner++ {
			operation := node(inner, 0, a, a)
			for _, kids := range [][]api.Node{{operation, a}, {a, operation}, {operation, operation}} {
				tree := exprTree(node(outer, 0, kids...))
				if got := parser.Strip(expectRight(t, plainText(tree))); !same(got, tree) {
					t.Errorf("%q: %v", plainText(tree), got)
				}
			}
		}
	}
}

// exprTree returns the tree of a source with an expression.
func exprTree(n api.Node) api.Node {
	return stmtTree(api.Node{Kind: api.NodeAssign, Name: "x", Kids: []api.Node{n}})
}

// stmtTree returns the tree of a source with a statement.
func stmtTree(n api.Node) api.Node {
	return node(api.NodeSource, 0, named(api.NodeProgram, "c", 0, 0, node(api.NodeOn, 0, n), named(api.NodeUse, "w", 0, 0)))
}

// P2.5: two sources that are joined.
func TestJoining(t *testing.T) {
	last, lastTree := "", api.Node{Kind: api.NodeSource}
	rightSources(15, func(r *rand.Rand, source string, tree api.Node) {
		// A comment at the end ends with the line feed.
		expectTree(t, last+"\n"+source, slices.Concat(lastTree.Kids, later(tree, len(last)+1).Kids)...)
		last, lastTree = source, tree
	})
}

// P2.6: something that is no item between two sources adds one diagnostic.
func TestWrongItems(t *testing.T) {
	pieces := []string{";", "}", "x;", "5 + = ;", "{ }", "{ x; y; }", "x { { ; } ; }", "= }", "<= }", "links l rate 1 delay 1 room 1 tail;", "on ack { }", "var x none 1 1 1;", "( ;", "x } ", "tail;", "window w;"}
	before := "\n"
	rightSources(16, func(r *rand.Rand, source string, tree api.Node) {
		piece := pick(r, pieces)
		expectWrong(t, before+piece+source, len(before))
		another := before + piece + source + "\n"
		expectWrong(t, another+piece+source, len(before), len(another))
		before = source + "\n"
	})
}

// P2.6: diagnostics have increasing offsets.
func TestOrderOfDiags(t *testing.T) {
	r := rand.New(rand.NewSource(17))
	for range 3000 {
		var tokens []string
		for range r.Intn(60) {
			tokens = append(tokens, pick(r, grammarWords()), pick(r, []string{"path", "p", "a", "back", "1", ";", ";", "}"}))
		}
		n, diags := parser.Parse(spaced(r, tokens))
		if len(diags) > 20 || len(diags) > 0 && n.Kind != 0 {
			t.Fatalf("%v: %v", tokens, diags)
		}
		for i := 1; i < len(diags); i++ {
			if diags[i].At <= diags[i-1].At {
				t.Fatalf("%v: %v", tokens, diags)
			}
		}
	}
}

// P2.7: a wrong statement adds one diagnostic, whatever follows it, and the items after the program are read.
func TestWrongStatements(t *testing.T) {
	wrongs := []struct {
		text string
		at   int
	}{{"= 1;", 0}, {"x;", 1}, {"x = ;", 4}, {"x = 1 2;", 6}, {"x = (1;", 6}, {"if a { }", 5}, {"if a < b c;", 9}, {"else { }", 0}, {"window w;", 0}, {"link l;", 0}, {"rtt = 1;", 0}}
	rightSources(18, func(r *rand.Rand, source string, tree api.Node) {
		w := pick(r, wrongs)
		// A wrong else would be right behind an if.
		before := source + "\n" + handler + plainStmts(r) + "y = 1; "
		follows := ""
		for range r.Intn(8) {
			x := pick(r, grammarWords())
			if x != "{" && x != "}" {
				follows += x + " "
			}
		}
		program := before + w.text + " " + follows + plainStmts(r) + "} on loss { x = ; ) } window window; } "
		expectWrong(t, program+source, len(before)+w.at)
		expectWrong(t, program+"path p a back 1; path p; "+source, len(before)+w.at, len(program)+23)
	})
}

// plainStmts returns the text of any statements.
func plainStmts(r *rand.Rand) string {
	n := api.Node{Kind: api.NodeOn, Kids: anyStmts(r, 2)}
	w := writer{gap: func() string { return " " }, extra: func() bool { return false }}
	for _, k := range n.Kids {
		w.stmt(k)
	}
	return w.text.String() + " "
}

// P2.8: a source that is cut after a token that ends no item; after one that ends an item, there are no diagnostics.
func TestBeginnings(t *testing.T) {
	rightSources(19, func(r *rand.Rand, source string, tree api.Node) {
		tokens, _, _ := lexer.Lex(source)
		if len(tokens) > 150 {
			return
		}
		begins := map[int]bool{}
		for _, item := range tree.Kids {
			begins[item.At] = true
		}
		texts := tokensOf(t, source)
		for i, x := range tokens {
			beginning := source[:x.At+len(texts[i])]
			if i+1 == len(tokens) || begins[tokens[i+1].At] {
				expectRight(t, beginning)
				continue
			}
			expectWrong(t, beginning, len(beginning))
			beginning += anyGap(r)
			expectWrong(t, beginning, len(beginning))
		}
	})
}

// P2.9: statements of 12 and of 13 levels.
func TestStatementLevels(t *testing.T) {
	for _, around := range []string{"if 1 < 2 { ", "if 1 < 2 { } else { "} {
		begin := handler + strings.Repeat(around, 11)
		end := strings.Repeat("} ", 11) + "} window x; }"
		for _, stmt := range []string{"x = 1; ", "if 1 < 2 { } ", "if 1 < 2 { } else { } ", "x = 1; if 1 < 2 { } x = 1; "} {
			n := expectRight(t, begin+stmt+end)
			if !parser.Valid(n) {
				t.Errorf("%q: the tree is not valid", begin+stmt+end)
			}
			at := len(begin + around)
			expectDiags(t, begin+around+stmt+"} "+end, tooDeep(at))
			expectDiags(t, begin+around+stmt+"} "+end+" path p", tooDeep(at), wrong(at+len(stmt+"} "+end)+7))
		}
		// What begins no statement is a wrong token, at any level.
		for _, text := range []string{"1;", ";", "window x;", "rtt = 1;", "{ }"} {
			expectWrong(t, begin+around+text+"} "+end, len(begin+around))
		}
		expectWrong(t, begin+around, len(begin+around))
		expectRight(t, begin+around+"} "+end)
	}
}

// P2.9: expressions of 12 and of 13 levels.
func TestExpressionLevels(t *testing.T) {
	for _, around := range [][2]string{{"(", ")"}, {"min(1,", ")"}, {"max(", ",a)"}, {"up(", ",1)*2"}, {"1-(", ")"}, {"(", ")/a"}, {"2*min(1,", ")+3"}} {
		begin, end := handler+"x = "+strings.Repeat(around[0], 11), strings.Repeat(around[1], 11)+"; } window x; }"
		deep := len(begin) + strings.Index(around[0], "(") + 1
		for _, expr := range []string{"1", "1 packets", "a", "rtt", "a+b*c", "a-b-c"} {
			n := expectRight(t, begin+expr+end)
			if !parser.Valid(n) {
				t.Errorf("%q: the tree is not valid", begin+expr+end)
			}
			expectDiags(t, begin+around[0]+expr+around[1]+end, tooDeep(deep))
			expectDiags(t, begin+around[0]+expr+";", tooDeep(deep))
			expectDiags(t, begin+around[0]+expr+around[1]+end+" path p", tooDeep(deep), wrong(len(begin+around[0]+expr+around[1]+end)+7))
		}
		// Only what is in parentheses has another level.
		expectRight(t, begin+"1"+strings.Repeat("+a*2", 50)+end)
		for _, text := range []string{";", ")", "+", ",", "rate", "if", "{"} {
			expectWrong(t, begin[:len(begin)-len(around[0])]+"2*("+"max("+text+"; } window x; }", len(begin)-len(around[0])+7)
		}
	}
	both := strings.Repeat("(", 11) + "1" + strings.Repeat(")", 11)
	expectRight(t, inHandler(strings.Repeat("if "+both+" < "+both+" { ", 12)+strings.Repeat("} ", 12)))
	expectDiags(t, inHandler("if ("+both+") < 1 { }"), tooDeep(36))
	expectDiags(t, inHandler("if 1 < ("+both+") { }"), tooDeep(40))
	expectDiags(t, inHandler("x = (min(1, "+both+"));"), tooDeep(43))
}
