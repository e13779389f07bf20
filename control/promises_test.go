package control_test

import (
	"math/rand"
	"slices"
	"testing"

	"queuelab/api"
	"queuelab/control"
	"queuelab/parser"
	"queuelab/printer"
)

// expectBuilt checks that a tree has no diagnostics, but some programs.
func expectBuilt(t *testing.T, n api.Node, want ...api.Program) {
	t.Helper()
	list, diags := control.Build(n)
	if len(diags) > 0 || !slices.EqualFunc(list, want, same) {
		t.Fatalf("%v, %s; want %s", diags, brief(list), brief(want))
	}
}

// P5.2.
func TestPrograms(t *testing.T) {
	count := map[int]int{}
	for m := range makers(11, 600) {
		n := m.between(m.loose(treeOf(m.programs(8)...)))
		for range 3 {
			list, diags := control.Build(n)
			if len(diags) > 0 {
				break
			}
			var names, want []string
			for _, item := range kidsOf(n, api.NodeProgram) {
				want = append(want, item.Name)
			}
			for _, p := range list {
				if !control.Valid(p) || !wantedValid(p) || slices.Contains(names, p.Name) {
					t.Fatalf("%s in %s", brief(p), brief(list))
				}
				names = append(names, p.Name)
			}
			if !slices.Equal(names, want) {
				t.Fatalf("%v; want %v", names, want)
			}
			count[len(list)]++
			n = m.changed(n)
		}
	}
	for programs := range 9 {
		if count[programs] < 10 {
			t.Errorf("%v", count)
		}
	}
}

// P5.3: also if the tree is written as a text and read from it.
func TestTreesOfPrograms(t *testing.T) {
	texts := 0
	for m := range makers(12, 1500) {
		list := m.programs(3)
		n := treeOf(list...)
		expectBuilt(t, n, list...)
		expectBuilt(t, m.loose(n), list...)
		text, err := printer.Source(n)
		if err != api.OK {
			continue
		}
		if read, diags := parser.Parse(text); len(diags) == 0 {
			expectBuilt(t, read, list...)
			texts++
		}
	}
	if texts < 1000 {
		t.Errorf("only %d texts", texts)
	}
}

// P5.3: programs that were changed, as far as they are valid and their trees are.
func TestTreesOfChangedPrograms(t *testing.T) {
	count := 0
	for m := range makers(13, 2000) {
		p := m.program("c")
		for range 3 {
			p = m.changedProgram(p)
			if !control.Valid(p) {
				break
			}
			if n := treeOf(p); parser.Valid(n) {
				expectBuilt(t, n, clean(p))
				count++
			}
		}
	}
	if count < 500 {
		t.Errorf("only %d programs", count)
	}
}

// clean returns a program in which fields that its tree does not tell are zero.
func clean(p api.Program) api.Program {
	for event, list := range p.On {
		p.On[event] = cleanStmts(list)
	}
	return p
}

func cleanStmts(list []api.Stmt) []api.Stmt {
	list = slices.Clone(list)
	for i, s := range list {
		list[i] = api.Stmt{Kind: api.StAssign, Var: s.Var, A: s.A}
		if s.Kind == api.StIf {
			list[i] = api.Stmt{Kind: api.StIf, Rel: s.Rel, A: s.A, B: s.B, Then: cleanStmts(s.Then), Else: cleanStmts(s.Else)}
		}
	}
	return list
}

// renamed returns an item whose variables have other names.
func renamed(item api.Node, names map[string]string) api.Node {
	return mapped(item, func(n api.Node) api.Node {
		switch n.Kind {
		case api.NodeVar, api.NodeAssign, api.NodeName, api.NodeUse:
			if name, ok := names[n.Name]; ok {
				n.Name = name
			}
		}
		return n
	})
}

// P5.4: the names are exchanged with each other, or are new ones.
func TestNamesOfVariables(t *testing.T) {
	for m := range makers(14, 1500) {
		p := m.program("c")
		var old []string
		for _, v := range p.Vars {
			old = append(old, v.Name)
		}
		for _, from := range [][]string{old, someNames, {"q0", "q1", "q2", "q3", "q4", "q5", "q6", "q7", "q8", "c", "zzzzzzzzzzzz", "ack_"}} {
			from = slices.Clone(from)
			m.Shuffle(len(from), func(i, k int) { from[i], from[k] = from[k], from[i] })
			names, want := map[string]string{}, p
			want.Vars = slices.Clone(p.Vars)
			for i := range want.Vars {
				names[old[i]] = from[i]
				want.Vars[i].Name = from[i]
			}
			expectBuilt(t, source(renamed(itemOf(p), names)), want)
			if !control.Valid(want) {
				t.Fatalf("it is not valid: %s", brief(want))
			}
		}
	}
}

// P5.4: diagnostics remain, too.
func TestNamesInWrongPrograms(t *testing.T) {
	count := 0
	for m := range makers(15, 3000) {
		n := numbered(treeOf(m.program("c")))
		n.Kids[0] = m.changed(m.changed(n.Kids[0]))
		_, diags := control.Build(n)
		if len(diags) == 0 || diags[0].Err == api.ErrArg {
			continue
		}
		names := map[string]string{}
		for _, name := range append([]string{"nothing"}, someNames...) {
			names[name] = "z_" + string(rune('a'+len(names)))
		}
		other := source(renamed(n.Kids[0], names))
		if _, got := control.Build(other); !slices.Equal(got, diags) {
			t.Fatalf("%v; want %v: %s", got, diags, brief(other))
		}
		count++
	}
	if count < 500 {
		t.Errorf("only %d programs", count)
	}
}

// P5.5: other items, and the order of programs.
func TestOtherItems(t *testing.T) {
	for m := range makers(16, 1000) {
		list := m.programs(5)
		expectBuilt(t, m.between(treeOf(list...)), list...)
		for _, p := range list {
			expectBuilt(t, treeOf(p), p)
		}
		m.Shuffle(len(list), func(i, k int) { list[i], list[k] = list[k], list[i] })
		expectBuilt(t, m.between(treeOf(list...)), list...)
	}
}

// P5.5: other items do not matter for diagnostics either.
func TestOtherItemsAndErrors(t *testing.T) {
	count := 0
	for m := range makers(17, 1500) {
		n := numbered(m.loose(treeOf(m.programs(3)...)))
		n.Kids = append(n.Kids, m.tiny(10)...)
		for range 3 {
			n = m.changed(n)
		}
		if !parser.Valid(n) {
			continue
		}
		_, want := control.Build(n)
		if other := m.between(n); parser.Valid(other) {
			if _, got := control.Build(other); !slices.Equal(got, want) {
				t.Fatalf("%v; want %v: %s", got, want, brief(other))
			}
			count++
		}
	}
	if count < 500 {
		t.Errorf("only %d trees", count)
	}
}

// put returns an item with another statement somewhere in a handler, and whether there is one.
func put(r *rand.Rand, item, stmt api.Node) (api.Node, bool) {
	isPlace := func(n api.Node) bool { return n.Kind == api.NodeOn || n.Kind == api.NodeBlock }
	places := countOf(item, isPlace)
	if places == 0 {
		return item, false
	}
	chosen := r.Intn(places)
	return mapped(item, func(n api.Node) api.Node {
		if isPlace(n) {
			if chosen == 0 {
				n.Kids = slices.Insert(n.Kids, r.Intn(len(n.Kids)+1), stmt)
			}
			chosen--
		}
		return n
	}), true
}

// wrongStmt returns a statement with a name that is not declared; this has the offset -7, or the statement, if it assigns to it.
func (m maker) wrongStmt(p api.Program) api.Node {
	m.vars = p.Vars
	v := m.Intn(len(p.Vars))
	right := stmtNodes(p.Vars, []api.Stmt{assign(v, m.expr(p.Vars[v].Unit, 2))})[0]
	name := api.Node{Kind: api.NodeName, Name: "nothing", At: -7}
	// These are names of something, perhaps, but not of variables of this program.
	for _, other := range []string{p.Name, "policy", "c"} {
		if m.Intn(4) == 0 && !slices.ContainsFunc(p.Vars, func(v api.Var) bool { return v.Name == other }) {
			name.Name = other
		}
	}
	expr := name
	for range m.Intn(4) {
		kids := []api.Node{expr, right.Kids[0]}
		m.Shuffle(2, func(i, k int) { kids[i], kids[k] = kids[k], kids[i] })
		expr = node(api.NodeAdd+m.Intn(7), kids...)
	}
	switch m.Intn(5) {
	case 0:
		return api.Node{Kind: api.NodeAssign, Name: name.Name, At: -7, Kids: right.Kids}
	case 1:
		return named(api.NodeIf, "", api.RelMore, expr, right.Kids[0], node(api.NodeBlock, right))
	case 2:
		return named(api.NodeIf, "", api.RelEqual, right.Kids[0], expr, node(api.NodeBlock), node(api.NodeBlock, right))
	}
	return named(api.NodeAssign, right.Name, 0, expr)
}

// isLong reports whether a handler has too many statements.
func isLong(n api.Node) bool { return countOf(n, isStmt) > 100 }

// P5.6.
func TestWrongStatements(t *testing.T) {
	count := map[int]int{}
	for m := range makers(18, 2500) {
		n := numbered(m.between(treeOf(m.programs(3)...)))
		list, _ := control.Build(n)
		which := slices.IndexFunc(n.Kids, func(item api.Node) bool { return item.Kind == api.NodeProgram && m.Intn(2) == 0 })
		if which < 0 {
			continue
		}
		p := list[slices.IndexFunc(list, func(p api.Program) bool { return p.Name == n.Kids[which].Name })]
		item, ok := put(m.Rand, n.Kids[which], m.wrongStmt(p))
		n.Kids[which] = item
		if !ok || !parser.Valid(n) || slices.ContainsFunc(item.Kids, isLong) {
			continue
		}
		got, diags := control.Build(n)
		if len(got) > 0 || !slices.Equal(diags, []api.Diag{{Err: api.ErrName, At: -7}}) {
			t.Fatalf("%v: %s", diags, brief(item))
		}
		count[kindAt(n, -7)]++
	}
	if count[api.NodeAssign] < 150 || count[api.NodeName] < 700 {
		t.Errorf("%v", count)
	}
}

// P5.7.
func TestOtherUses(t *testing.T) {
	count := map[bool]int{}
	for m := range makers(19, 400) {
		p := m.program("c")
		for i := -2; i <= len(p.Vars)+1; i++ {
			there := i >= 0 && i < len(p.Vars)
			window, pace := p, p
			window.Window, pace.Pace = i, i
			for _, x := range []struct {
				p    api.Program
				use  int
				want bool
			}{{window, 0, there && p.Vars[i].Unit == api.UnitPackets}, {pace, 1, i == -1 || there && p.Vars[i].Unit == api.UnitRate}} {
				if control.Valid(x.p) != x.want {
					t.Fatalf("it is valid: %v: %s", !x.want, brief(x.p))
				}
				count[x.want]++
				if !there {
					continue
				}
				n := numbered(treeOf(x.p))
				if x.want {
					expectBuilt(t, n, x.p)
					continue
				}
				uses := kidsOf(n.Kids[0], api.NodeUse)
				if list, diags := control.Build(n); len(list) > 0 || !slices.Equal(diags, []api.Diag{{Err: api.ErrUnit, At: uses[x.use].At}}) {
					t.Fatalf("%v: %s", diags, brief(x.p))
				}
			}
		}
	}
	if count[true] < 1000 || count[false] < 1000 {
		t.Errorf("%v", count)
	}
}

// P5.8: all orders of the handlers of a program, which has one for each event.
func TestOrderOfHandlers(t *testing.T) {
	orders := [][]int{nil}
	for event := range api.Events {
		var longer [][]int
		for _, order := range orders {
			for i := range len(order) + 1 {
				longer = append(longer, slices.Insert(slices.Clone(order), i, event))
			}
		}
		orders = longer
	}
	if len(orders) != 120 {
		t.Fatal(len(orders))
	}
	for m := range makers(20, 60) {
		p := m.program("c")
		for event := range p.On {
			v := m.Intn(len(p.Vars))
			p.On[event] = []api.Stmt{{Kind: api.StAssign, Var: v, A: api.Expr{Op: api.ExNumber, N: event, Unit: p.Vars[v].Unit}}}
		}
		// In some handlers the units do not fit: the first event of these counts in all orders.
		wrong, first := p, api.Events
		for event := range p.On {
			if m.Intn(3) == 0 {
				wrong.On[event] = []api.Stmt{{Kind: api.StAssign, Var: p.Window, A: api.Expr{Op: api.ExNumber, Unit: api.UnitTime}}}
				first = min(first, event)
			}
		}
		for _, order := range orders {
			expectBuilt(t, source(ordered(itemOf(p), order)), p)
			n := numbered(source(ordered(itemOf(wrong), order)))
			if first == api.Events {
				expectBuilt(t, n, wrong)
				continue
			}
			handlers := kidsOf(n.Kids[0], api.NodeOn)
			at := handlers[slices.Index(order, first)].At
			if list, diags := control.Build(n); len(list) > 0 || !slices.Equal(diags, []api.Diag{{Err: api.ErrUnit, At: at}}) {
				t.Fatalf("%v; want %d: %v, %s", diags, at, order, brief(wrong))
			}
		}
	}
}

// ordered returns an item with handlers for all events, in an order of these.
func ordered(item api.Node, order []int) api.Node {
	handlers := kidsOf(item, api.NodeOn)
	var list []api.Node
	for _, event := range order {
		list = append(list, handlers[event])
	}
	item.Kids = slices.Concat(kidsOf(item, api.NodeVar), list, kidsOf(item, api.NodeUse))
	return item
}
