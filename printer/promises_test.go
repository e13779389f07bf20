package printer_test

import (
	"math/rand"
	"slices"
	"strings"
	"testing"

	"queuelab/api"
	"queuelab/lexer"
	"queuelab/parser"
	"queuelab/printer"
)

// P3.1 and P3.3: all texts of a tree, whatever their gaps, further parentheses and units that mean nothing, have the same canonical text.
func TestManyTexts(t *testing.T) {
	manyTexts(11, func(m maker, marked string) {
		want := canonical(marked)
		for range 3 {
			expectText(t, m.other(t, marked), want)
		}
		expectText(t, want, want)
		if t.Failed() {
			t.FailNow()
		}
	})
}

// P3.2: the text of a tree is parsed to it; it need not come from a text itself.
func TestInverse(t *testing.T) {
	manyTexts(12, func(m maker, marked string) {
		tree := treeOf(t, m.other(t, marked))
		for range 5 {
			if text, err := printer.Source(tree); err == api.OK {
				if got := parser.Strip(treeOf(t, text)); !same(got, parser.Strip(tree)) {
					t.Fatalf("%q: %s; want %s", text, brief(got), brief(tree))
				}
			}
			tree = changed(m, tree)
		}
	})
}

// P3.2: a text may have more tokens than a source can have; up to this number it is parsed to the tree.
func TestManyTokens(t *testing.T) {
	expr := word("a")
	for range 11 {
		expr = node(api.NodeMin, expr, word("a"))
	}
	for stmts := range 101 {
		tree := source(program(slices.Repeat([]api.Node{named(api.NodeAssign, "x", expr)}, stmts)...))
		text := textOf(t, tree)
		count := 3 + 4 + 59*stmts + 4
		if got, diags := parser.Parse(text); count <= 3000 && !same(parser.Strip(got), tree) || (count > 3000) != (len(diags) > 0) {
			t.Errorf("%d statements, %d tokens: %v", stmts, count, diags)
		}
		if tokens, err, _ := lexer.Lex(text); count <= 3000 && len(tokens) != count || (err == api.ErrLimit) != (count > 3000) {
			t.Errorf("%d tokens; want %d", len(tokens), count)
		}
	}
}

// P3.3: printing, parsing and printing again, also for trees that were changed.
func TestAgain(t *testing.T) {
	manyTexts(13, func(m maker, marked string) {
		tree := treeOf(t, m.other(t, marked))
		for range 5 {
			if text, err := printer.Source(tree); err == api.OK {
				expectText(t, text, text)
				expectText(t, m.spaced(t, text), text)
			}
			tree = changed(m, tree)
		}
		if t.Failed() {
			t.FailNow()
		}
	})
}

// P3.4: the text of a source is that of its items.
func TestTextsOfItems(t *testing.T) {
	last := source()
	manyTexts(14, func(m maker, marked string) {
		tree := treeOf(t, m.other(t, marked))
		text := ""
		for _, n := range tree.Kids {
			item, err := printer.Item(n)
			if err != api.OK || item == "" || item != textOf(t, source(n)) {
				t.Fatalf("%s: %q, %v", brief(n), item, err)
			}
			text += item
		}
		if got := textOf(t, tree); got != text {
			t.Fatalf("%q; want %q", got, text)
		}
		both := source(slices.Concat(last.Kids, tree.Kids)...)
		if got, err := printer.Source(both); err == api.OK && got != textOf(t, last)+text {
			t.Fatalf("%q; want %q", got, textOf(t, last)+text)
		}
		last = tree
	})
}

// P3.1 and P3.4: an item has a text if and only if a source with only this item has one.
func TestChangedItems(t *testing.T) {
	count := map[api.Errno]int{}
	manyTexts(15, func(m maker, marked string) {
		for _, n := range treeOf(t, canonical(marked)).Kids {
			for range m.Intn(3) {
				n = changed(m, n)
			}
			want := api.ErrArg
			if parser.Valid(source(n)) {
				want = api.OK
			}
			text, err := printer.Item(n)
			whole, errWhole := printer.Source(source(n))
			if err != want || text != whole || err != errWhole || (text == "") != (err != api.OK) {
				t.Fatalf("%s: %q, %v; as a source: %q, %v", brief(n), text, err, whole, errWhole)
			}
			count[err]++
		}
	})
	if count[api.OK] < 500 || count[api.ErrArg] < 500 {
		t.Errorf("%v", count)
	}
}

// P3.5: trees that are a little different have different texts.
func TestChangedTrees(t *testing.T) {
	count := 0
	manyTexts(16, func(m maker, marked string) {
		tree := treeOf(t, canonical(marked))
		for range 20 {
			other := changed(m, tree)
			text, err := printer.Source(other)
			if err != api.OK {
				continue
			}
			if alike := same(parser.Strip(other), parser.Strip(tree)); alike != (text == canonical(marked)) {
				t.Fatalf("%s: %q; %s: %q", brief(tree), canonical(marked), brief(other), text)
			} else if !alike {
				count++
			}
		}
	})
	if count < 2000 {
		t.Errorf("only %d trees were changed", count)
	}
}

// P3.2 and P3.5: all expressions of at most three operations.
func TestAllExpressions(t *testing.T) {
	lists := [][]api.Node{{word("a"), {Kind: api.NodeNumber, N: 1, Unit: api.UnitPackets}}}
	for operations := 1; operations <= 3; operations++ {
		var list []api.Node
		for left := range operations {
			for kind := api.NodeAdd; kind <= api.NodeMax; kind++ {
				for _, a := range lists[left] {
					for _, b := range lists[operations-1-left] {
						list = append(list, node(kind, a, b))
					}
				}
			}
		}
		lists = append(lists, list)
	}
	texts := map[string]bool{}
	for _, n := range slices.Concat(lists...) {
		text := textOf(t, exprTree(n))
		if texts[text] {
			t.Fatalf("%q is the text of two trees", text)
		}
		texts[text] = true
		if got := parser.Strip(treeOf(t, text)); !same(got, exprTree(n)) {
			t.Fatalf("%q: %s; want %s", text, brief(got), brief(n))
		}
	}
}

// P3.6: the lines of a text.
func TestLines(t *testing.T) {
	manyTexts(17, func(m maker, marked string) {
		text := textOf(t, treeOf(t, m.other(t, marked)))
		if text == "" {
			return
		}
		lines, open := strings.SplitAfter(text, "\n"), 0
		if last := lines[len(lines)-1]; last != "" {
			t.Fatalf("%q: the last line does not end", text)
		}
		for _, line := range lines[:len(lines)-1] {
			line = strings.TrimSuffix(line, "\n")
			blanks := len(line) - len(strings.TrimLeft(line, " "))
			closed := 0
			if strings.HasPrefix(line[blanks:], "}") {
				closed = 1
			}
			if line == "" || line[len(line)-1] == ' ' || blanks != 2*(open-closed) || strings.Contains(line[blanks:], "  ") {
				t.Fatalf("%q: the line %q, behind %d braces", text, line, open)
			}
			open += strings.Count(line, "{") - strings.Count(line, "}")
		}
	})
}

// changed returns a tree with another value somewhere, which often is valid, too.
func changed(m maker, n api.Node) api.Node {
	n.Kids = slices.Clone(n.Kids)
	if len(n.Kids) > 0 && m.Intn(6) > 0 {
		i := m.Intn(len(n.Kids))
		n.Kids[i] = changed(m, n.Kids[i])
		return n
	}
	switch m.Intn(5) {
	case 0:
		n.Name = pick(m.Rand, "a", "b", "rtt", "abcdefghijkl", "")
	case 1:
		n.N = pick(m.Rand, 0, 1, 2, 3, 4, 5, 6, 7, -1, 1000000000)
	case 2:
		n.Unit = pick(m.Rand, 0, 1, 2, 3, 4, 5)
	case 3:
		n.Kind = pick(m.Rand, n.Kind, api.NodeAdd, api.NodeSub, api.NodeMul, api.NodeDiv, api.NodeUp, api.NodeMin, api.NodeMax, m.Intn(22))
	default:
		n.Kids = changedKids(m.Rand, n.Kids)
	}
	return n
}

// changedKids returns nodes without one of them, with one twice, or with two exchanged.
func changedKids(r *rand.Rand, kids []api.Node) []api.Node {
	if len(kids) == 0 {
		return kids
	}
	i, k := r.Intn(len(kids)), r.Intn(len(kids))
	switch r.Intn(3) {
	case 0:
		return slices.Delete(kids, i, i+1)
	case 1:
		return slices.Insert(kids, k, kids[i])
	}
	kids[i], kids[k] = kids[k], kids[i]
	return kids
}
