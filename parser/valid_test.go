package parser_test

import (
	"math"
	"math/rand"
	"strings"
	"testing"

	"queuelab/api"
	"queuelab/parser"
)

func expectValid(t *testing.T, want bool, trees ...api.Node) {
	t.Helper()
	for _, n := range trees {
		if parser.Valid(n) != want {
			t.Errorf("%+v is valid: %v", n, !want)
		}
	}
}

// P2.1: whatever was changed in a tree, it is valid if and only if a text of it parses to it.
func TestChangedTrees(t *testing.T) {
	r := rand.New(rand.NewSource(21))
	count := map[bool]int{}
	for range 20000 {
		tree := anyTree(r, 1+r.Intn(2))
		for range 1 + r.Intn(2) {
			tree = changedTree(r, tree)
		}
		parsed, diags := parser.Parse(plainText(tree))
		want := len(diags) == 0 && same(parser.Strip(parsed), parser.Strip(tree))
		if parser.Valid(tree) != want {
			t.Fatalf("%q: valid: %v, %v: %+v", plainText(tree), !want, diags, tree)
		}
		count[want]++
	}
	if count[true] < 2000 || count[false] < 2000 {
		t.Errorf("%v", count)
	}
}

// changedTree returns a tree with another value somewhere.
func changedTree(r *rand.Rand, n api.Node) api.Node {
	if len(n.Kids) > 0 && r.Intn(5) > 0 {
		i := r.Intn(len(n.Kids))
		n.Kids = append([]api.Node{}, n.Kids...)
		n.Kids[i] = changedTree(r, n.Kids[i])
		return n
	}
	switch r.Intn(7) {
	case 0:
		n.Kind = r.Intn(23)
	case 1:
		n.Name = pick(r, []string{"", "a", "b1_", "abcdefghijkl", "abcdefghijklm", "if", "rtt", "size", "rate", "A", "_", "1a", "a b", " a", "a ", "a#", "a\n", "a;", ";", "é"})
	case 2:
		n.N = pick(r, []int{-1, 0, 1, 2, 3, 4, 5, 6, 7, 1000000000, 1000000001, math.MinInt, math.MaxInt})
	case 3:
		n.Unit = pick(r, []int{-1, 0, 1, 4, 5, math.MaxInt})
	case 4:
		n.At = pick(r, []int{-1, 1, 100000, math.MinInt})
	case 5:
		n.Kids = anyKids(r, n.Kids)
	case 6:
		n = pick(r, []api.Node{{}, anyItem(r), anyStmt(r, 1), anyExpr(r, 2), {Kind: api.NodeNumber, N: 1}, {Kind: api.NodeName, Name: "a"}})
	}
	return n
}

// anyKids returns nodes with another one between them, or without one, or in another order.
func anyKids(r *rand.Rand, kids []api.Node) []api.Node {
	kids = append([]api.Node{}, kids...)
	another := pick(r, []api.Node{anyItem(r), anyStmt(r, 1), anyExpr(r, 1), {Kind: api.NodeNumber, N: 1}, {Kind: api.NodeName, Name: "a"}, {Kind: api.NodeBlock}})
	if len(kids) == 0 || r.Intn(3) == 0 {
		return append(kids, another)
	}
	i, k := r.Intn(len(kids)), r.Intn(len(kids))
	switch r.Intn(3) {
	case 0:
		return append(kids[:i], kids[i+1:]...)
	case 1:
		return append(kids, kids[i])
	}
	kids[i], kids[k] = kids[k], kids[i]
	return kids
}

// P2.1: valid trees, whatever their offsets and the lengths of their texts.
func TestValidTrees(t *testing.T) {
	rightSources(22, func(r *rand.Rand, source string, tree api.Node) {
		expectValid(t, true, tree, parser.Strip(tree), later(tree, -1<<40))
	})
	long := api.Node{Kind: api.NodePath, Name: "abcdefghijkl"}
	for range 2497 {
		long.Kids = append(long.Kids, word("abcdefghijkl", 0))
	}
	long.Kids = append(long.Kids, number(0, 0))
	expectValid(t, true, node(api.NodeSource, 0), node(api.NodeSource, 7), node(api.NodeSource, 0, long))
	expectValid(t, false, node(api.NodeSource, 0, long, long), node(api.NodeSource, 0, anyItem(rand.New(rand.NewSource(1))), long))

	// Its text has more than 3000 tokens.
	use := named(api.NodeUse, "w", 0, 0)
	program := named(api.NodeProgram, "c", 0, 0, use)
	many := node(api.NodeSource, 0)
	for range 1249 {
		many.Kids = append(many.Kids, program)
	}
	expectValid(t, true, many)
	many.Kids = append(many.Kids, program)
	expectValid(t, false, many)
}

// P2.1: levels of trees.
func TestValidLevels(t *testing.T) {
	a := word("a", 0)
	for kind := api.NodeAdd; kind <= api.NodeMax; kind++ {
		for inner := api.NodeAdd; inner <= api.NodeMax; inner++ {
			for side := range 2 {
				expr, levels := a, 0
				for levels < 12 {
					expectValid(t, true, exprTree(expr))
					for _, k := range []int{inner, kind} {
						kids := []api.Node{a, a}
						kids[side] = expr
						expr = node(k, 0, kids...)
					}
					before := levels
					levels = depth(expr)
					if levels == before {
						break
					}
				}
				expectValid(t, levels < 12, exprTree(expr))
			}
		}
	}
	assign := named(api.NodeAssign, "x", 0, 0, a)
	stmt := assign
	for level := 1; level < 15; level++ {
		expectValid(t, level <= 12, stmtTree(stmt))
		block := node(api.NodeBlock, 0, assign, stmt)
		kids := []api.Node{a, a, block}
		if level%3 == 0 {
			kids = []api.Node{a, a, node(api.NodeBlock, 0), block}
		}
		stmt = counted(api.NodeIf, api.RelOther, 0, kids...)
	}
}

// depth counts the parentheses that are open at once in the text of an expression.
func depth(n api.Node) int {
	open, most := 0, 0
	for _, c := range plainText(exprTree(n)) {
		switch c {
		case '(':
			open++
		case ')':
			open--
		}
		most = max(most, open)
	}
	return most
}

// P2.1: nodes that are no trees of sources.
func TestNoTrees(t *testing.T) {
	x := word("x", 0)
	item := anyItem(rand.New(rand.NewSource(1)))
	expectValid(t, false, api.Node{}, item, x, api.Node{Kind: api.NodeSource, Name: "a"}, api.Node{Kind: api.NodeSource, N: 1},
		api.Node{Kind: api.NodeSource, Unit: 1}, node(api.NodeSource, 0, api.Node{}), node(api.NodeSource, 0, node(api.NodeSource, 0)), node(-1, 0), node(22, 0))
	one := number(1, 0)
	for _, name := range []string{"", "A", "a-", "0", "_a", "abcdefghijklm", "if", "rate", "rtt", "a a", "# a", ";", "+", "<=", "{", strings.Repeat("a", 20000)} {
		expectValid(t, false, node(api.NodeSource, 0, named(api.NodePath, name, 0, 0, x, one)), node(api.NodeSource, 0, named(api.NodePath, "p", 0, 0, word(name, 0), one)))
		expectValid(t, name == "rtt", exprTree(word(name, 0)))
	}
	path := func(kids ...api.Node) api.Node {
		return node(api.NodeSource, 0, named(api.NodePath, "p", 0, 0, kids...))
	}
	expectValid(t, true, path(x, one), path(x, x, number(1000000000, 5)))
	expectValid(t, false, path(), path(one), path(x), path(x, one, one), path(one, x), path(x, number(-1, 0)), path(x, number(1000000001, 0)), path(x, amount(1, 1, 0)),
		path(node(api.NodeName, 0), one), path(named(api.NodeName, "x", 1, 0), one), path(node(api.NodeName, 0, x), one), path(x, node(api.NodeNumber, 0, x)))
}

// P2.1: numbers that mean nothing, and too few or too many nodes below others.
func TestWrongParts(t *testing.T) {
	x, one := word("x", 0), number(1, 0)
	for kind := -1; kind < 9; kind++ {
		for count := range 5 {
			policy := counted(api.NodePolicy, kind, 0, anyNumbers(rand.New(rand.NewSource(1)), count)...)
			link := node(api.NodeSource, 0, named(api.NodeLink, "l", 0, 0, one, one, one, policy))
			expectValid(t, kind >= 1 && kind <= 6 && policySizes[max(0, min(6, kind))] == count, link)
		}
	}
	program := func(parts ...api.Node) api.Node {
		return node(api.NodeSource, 0, named(api.NodeProgram, "c", 0, 0, parts...))
	}
	use := func(purpose int) api.Node { return named(api.NodeUse, "w", purpose, 0) }
	expectValid(t, true, program(use(0)), program(use(0), use(1)))
	expectValid(t, false, program(), program(use(1)), program(use(0), use(0)), program(use(1), use(0)), program(use(0), use(1), use(2)),
		program(use(0), use(2)), program(use(0), x), program(named(api.NodeUse, "w", 0, 0, x)), program(node(api.NodeUse, 0)))
	block := node(api.NodeBlock, 0)
	for k := -1; k < 9; k++ {
		expectValid(t, k >= 0 && k <= 4, program(named(api.NodeVar, "x", k, 0, one, one, one), use(0)), program(counted(api.NodeOn, k, 0), use(0)), exprTree(amount(1, k, 0)))
		expectValid(t, k >= 1 && k <= 6, stmtTree(counted(api.NodeIf, k, 0, x, x, block)), stmtTree(counted(api.NodeIf, k, 0, x, x, block, block)))
	}
	expectValid(t, false, stmtTree(counted(api.NodeIf, 1, 0, x, x)), stmtTree(counted(api.NodeIf, 1, 0, x, x, block, block, block)),
		stmtTree(counted(api.NodeIf, 1, 0, x, block)), stmtTree(counted(api.NodeIf, 1, 0, x, x, x)), stmtTree(block),
		program(named(api.NodeVar, "x", 0, 0, one, one), use(0)), program(named(api.NodeVar, "rtt", 0, 0, one, one, one), use(0)),
		program(node(api.NodeOn, 0), named(api.NodeVar, "x", 0, 0, one, one, one), use(0)))
}

// P1: a node that contains itself.
func TestEndless(t *testing.T) {
	for kids := 1; kids < 4; kids++ {
		for kind := range 23 {
			n := api.Node{Kind: kind, Name: "a", Kids: make([]api.Node, kids)}
			for i := range n.Kids {
				n.Kids[i] = n
			}
			expectValid(t, false, n, node(api.NodeSource, 0, n), exprTree(n), stmtTree(n))
			parser.Strip(n)
		}
	}
}

// P2.1: Strip leaves all but the offsets, in any node.
func TestStrip(t *testing.T) {
	r := rand.New(rand.NewSource(23))
	for range 3000 {
		marked, want := anyNode(r, 5)
		before := later(marked, 0)
		if got := parser.Strip(marked); !same(got, want) {
			t.Fatalf("%+v: %+v", marked, got)
		}
		if !same(marked, before) {
			t.Fatalf("%+v was modified", before)
		}
	}
	rightSources(24, func(r *rand.Rand, source string, tree api.Node) {
		preorder(parser.Strip(tree), func(n api.Node) {
			if n.At != 0 {
				t.Fatalf("%q: %+v", source, n)
			}
		})
	})
}

// anyNode returns any node, mostly none of a tree, and the same without offsets.
func anyNode(r *rand.Rand, size int) (marked, plain api.Node) {
	plain = api.Node{Kind: r.Intn(30) - 5, Name: pick(r, []string{"", "a", "\x00"}), N: r.Intn(100) - 50, Unit: r.Intn(7) - 1}
	marked = plain
	marked.At = pick(r, []int{0, 1, 1000, -1, math.MinInt, math.MaxInt})
	for range r.Intn(size) {
		a, b := anyNode(r, size-1)
		marked.Kids, plain.Kids = append(marked.Kids, a), append(plain.Kids, b)
	}
	return marked, plain
}

// P2.1: Strip of deep nodes, and that what it returns is new.
func TestDeepStrip(t *testing.T) {
	deep := api.Node{Kind: 1, At: 1}
	want := api.Node{Kind: 1}
	for range 10000 {
		deep, want = node(2, 2, deep), node(2, 0, want)
	}
	if !same(parser.Strip(deep), want) {
		t.Error("10000 nodes above one are not too many")
	}
	for range 60000 {
		deep = node(2, 2, deep)
	}
	parser.Strip(deep)

	tree, _ := parser.Parse("path p a b back 1;")
	first, second := parser.Strip(tree), parser.Strip(tree)
	first.Kids[0].Kids[0].Name = "z"
	first.Kids[0].Name = "z"
	if tree.Kids[0].Name != "p" || tree.Kids[0].Kids[0].Name != "a" || second.Kids[0].Kids[0].Name != "a" {
		t.Error("results share memory")
	}
}
