package control_test

import (
	"slices"
	"strings"
	"testing"

	"queuelab/api"
	"queuelab/control"
	"queuelab/parser"
	"queuelab/units"
)

// isName is what the chapters of the lexer and the parser say of names.
func isName(text string) bool {
	keys := strings.Fields("link rate delay room path back flow program paths size window start on pace tail early sojourn integral deficit dual var none packets bytes time ack loss mark timeout if else min max up acked rtt total")
	rest := strings.TrimLeft(text, "abcdefghijklmnopqrstuvwxyz0123456789_")
	return text != "" && len(text) <= 12 && rest == "" && text[0] >= 'a' && text[0] <= 'z' && !slices.Contains(keys, text)
}

func isInput(name string) bool {
	return slices.Contains([]string{"acked", "rtt", "size", "total"}, name)
}

// exponents is the unit of an expression; ok says whether it has one.
type exponents struct {
	of [3]int
	ok bool
}

// exponentsOf returns the unit of an expression whose names are declared, by its tree.
func exponentsOf(kinds map[string]int, n api.Node) exponents {
	kind, power := 0, 1
	switch n.Kind {
	case api.NodeNumber:
		kind = n.Unit
	case api.NodeName:
		kind = kinds[n.Name]
	default:
		a, b := exponentsOf(kinds, n.Kids[0]), exponentsOf(kinds, n.Kids[1])
		switch n.Kind {
		case api.NodeDiv, api.NodeUp:
			power = -1
		case api.NodeMul:
		default:
			a.ok = a.ok && b.ok && a == b
			return a
		}
		for i := range a.of {
			a.of[i] += power * b.of[i]
			a.ok = a.ok && b.ok && a.of[i] >= -4 && a.of[i] <= 4
		}
		return a
	}
	u, _ := units.Of(kind)
	return exponents{[3]int{u.Packets, u.Bytes, u.Time}, true}
}

// unitsFit reports whether no statement of a handler has an error of units.
func unitsFit(kinds map[string]int, handler api.Node) bool {
	fit := true
	preorder(handler, api.Node{}, func(n, _ api.Node) {
		if isStmt(n) {
			b := word(n.Name)
			if n.Kind == api.NodeIf {
				b = n.Kids[1]
			}
			left, right := exponentsOf(kinds, n.Kids[0]), exponentsOf(kinds, b)
			fit = fit && left.ok && right.ok && left == right
		}
	})
	return fit
}

// errorsOf returns all errors of an item behind other programs, in the order of the chapter; the first one counts, and what comes behind it may be nonsense.
func errorsOf(item api.Node, earlier []api.Node) []api.Diag {
	var list []api.Diag
	report := func(wrong bool, err api.Errno, n api.Node) {
		if wrong {
			list = append(list, api.Diag{Err: err, At: n.At})
		}
	}
	for _, other := range earlier {
		report(other.Name == item.Name, api.ErrTwice, item)
	}
	report(len(earlier) >= 8, api.ErrLimit, item)
	kinds := map[string]int{"acked": api.UnitPackets, "rtt": api.UnitTime, "size": api.UnitBytes, "total": api.UnitPackets}
	for i, n := range kidsOf(item, api.NodeVar) {
		report(i >= 12, api.ErrLimit, n)
		_, twice := kinds[n.Name]
		report(twice, api.ErrTwice, n)
		report(n.Kids[2].N < n.Kids[0].N || n.Kids[2].N > n.Kids[1].N, api.ErrRange, n)
		kinds[n.Name] = n.N
	}
	declared := func(n api.Node) bool {
		_, ok := kinds[n.Name]
		return ok
	}
	events := map[int]api.Node{}
	for _, h := range kidsOf(item, api.NodeOn) {
		_, twice := events[h.N]
		report(twice, api.ErrTwice, h)
		events[h.N] = h
		report(countOf(h, isStmt) > 100, api.ErrLimit, h)
		preorder(h, api.Node{}, func(n, above api.Node) {
			report(isStmt(above) && n.Kind != api.NodeBlock && size(n) > 60, api.ErrLimit, n)
			report(n.Kind == api.NodeAssign && !declared(n), api.ErrName, n)
			report(n.Kind == api.NodeName && !declared(n), api.ErrName, n)
		})
	}
	for i, n := range kidsOf(item, api.NodeUse) {
		report(!declared(n), api.ErrName, n)
		report(kinds[n.Name] != []int{api.UnitPackets, api.UnitRate}[i], api.ErrUnit, n)
	}
	for event := range 5 {
		if h, ok := events[event]; ok && len(list) == 0 {
			report(!unitsFit(kinds, h), api.ErrUnit, h)
		}
	}
	return list
}

// wantedDiags returns the diagnostics of a tree.
func wantedDiags(n api.Node) []api.Diag {
	if !parser.Valid(n) {
		return []api.Diag{{Err: api.ErrArg}}
	}
	var diags []api.Diag
	items := kidsOf(n, api.NodeProgram)
	for i, item := range items {
		if list := errorsOf(item, items[:i]); len(list) > 0 {
			diags = append(diags, list[0])
		}
	}
	return diags[:min(len(diags), 20)]
}

// compare checks what Build returns for a tree, and returns it.
func compare(t *testing.T, n api.Node) ([]api.Program, []api.Diag) {
	t.Helper()
	before := mapped(n, func(n api.Node) api.Node { return n })
	list, diags := control.Build(n)
	if want := wantedDiags(n); !slices.Equal(diags, want) {
		t.Fatalf("%v; want %v: %s", diags, want, brief(n))
	}
	if !sameNode(n, before) {
		t.Fatalf("the tree was modified: %s", brief(before))
	}
	if len(diags) > 0 && len(list) > 0 {
		t.Fatalf("%v, and programs: %s", diags, brief(list))
	}
	if want := tidy(n); len(diags) == 0 && !slices.EqualFunc(treeOf(list...).Kids, want, sameNode) {
		t.Fatalf("%s; want %s", brief(treeOf(list...)), brief(want))
	}
	for _, p := range list {
		if !control.Valid(p) {
			t.Fatalf("it is not valid: %s", brief(p))
		}
	}
	return list, diags
}

// P5.1: trees that are right, and changed ones, with every error at every kind of a node.
func TestManyTrees(t *testing.T) {
	type place struct {
		err  api.Errno
		kind int
	}
	count := map[place]int{}
	for m := range makers(1, 1000) {
		n := m.between(m.loose(treeOf(m.programs(3)...)))
		if m.Intn(4) == 0 {
			n.Kids = append(n.Kids, m.tiny(12)...)
		}
		for range 8 {
			if parser.Valid(n) {
				n = numbered(n)
			}
			_, diags := compare(t, n)
			for _, d := range diags {
				count[place{d.Err, kindAt(n, d.At)}]++
			}
			if len(diags) == 0 {
				count[place{}]++
			}
			n = m.changed(n)
		}
	}
	for _, x := range []place{{}, {api.ErrTwice, api.NodeProgram}, {api.ErrLimit, api.NodeProgram},
		{api.ErrLimit, api.NodeVar}, {api.ErrTwice, api.NodeVar}, {api.ErrRange, api.NodeVar},
		{api.ErrTwice, api.NodeOn}, {api.ErrLimit, api.NodeOn}, {api.ErrName, api.NodeAssign}, {api.ErrLimit, api.NodeAdd}, {api.ErrName, api.NodeName},
		{api.ErrName, api.NodeUse}, {api.ErrUnit, api.NodeUse}, {api.ErrUnit, api.NodeOn}} {
		if count[x] < 15 {
			t.Errorf("%v only %d times", x, count[x])
		}
		delete(count, x)
	}
	for x := range count {
		if x.err != api.ErrArg && x.err != api.ErrLimit {
			t.Errorf("%v", x)
		}
	}
}

// tiny returns at most so many items with programs, some with the same names.
func (m maker) tiny(most int) []api.Node {
	var list []api.Node
	for range m.Intn(most + 1) {
		w := named(api.NodeVar, "w", api.UnitPackets, amount(1, 0), amount(3, 0), amount(m.Intn(5), 0))
		list = append(list, named(api.NodeProgram, pick(m.Rand, "q0", "q1", "q2", "q3", "q4", "q5", "q6", "q7", "q8", "q9", "w"), 0, w, named(api.NodeUse, "w", 0)))
	}
	return list
}

// wantedValid is the specification of Valid.
func wantedValid(p api.Program) bool {
	names := map[string]bool{}
	for _, v := range p.Vars {
		if !isName(v.Name) || names[v.Name] || v.Unit < 0 || v.Unit > 4 || v.Low < 0 || v.Init < v.Low || v.High < v.Init || v.High > 1000000000 {
			return false
		}
		names[v.Name] = true
	}
	unit := func(i int) int {
		if i < 0 || i >= len(p.Vars) {
			return -1
		}
		return p.Vars[i].Unit
	}
	_, err := units.Check(p)
	return isName(p.Name) && len(p.Vars) >= 1 && len(p.Vars) <= 12 && err == api.OK &&
		unit(p.Window) == api.UnitPackets && (p.Pace == -1 || unit(p.Pace) == api.UnitRate)
}

// changedProgram returns a program with something else somewhere.
func (m maker) changedProgram(p api.Program) api.Program {
	p.Vars = slices.Clone(p.Vars)
	i := m.Intn(len(p.Vars))
	v := &p.Vars[i]
	name := pick(m.Rand, append([]string{"", "if", "total", "abcdefghijklm", "A", "a b", "w;", "1", "_a", "\xff"}, someNames...)...)
	switch m.Intn(11) {
	case 0:
		p.Name = name
	case 1:
		v.Name = name
	case 2:
		v.Unit = m.odd()
	case 3:
		v.Low = m.odd()
	case 4:
		v.High = m.odd()
	case 5:
		v.Init = m.odd()
	case 6:
		p.Window = m.odd()
	case 7:
		p.Pace = m.odd()
	case 8:
		p.Vars = slices.Insert(p.Vars, i, slices.Repeat([]api.Var{*v}, pick(m.Rand, 1, 12))...)
	case 9:
		p.Vars = append(p.Vars, api.Var{Name: name, Unit: m.Intn(5)})
	default:
		event := m.Intn(api.Events)
		s := pick(m.Rand, api.Stmt{}, api.Stmt{Kind: api.StAssign, Var: m.odd(), A: m.leaf(m.Intn(5))}, api.Stmt{Kind: m.odd(), Rel: m.odd(), A: m.leaf(0), B: m.leaf(0)})
		p.On[event] = append(slices.Clone(p.On[event]), slices.Repeat([]api.Stmt{s}, pick(m.Rand, 1, 1, 101))...)
	}
	return p
}

// P5.1: programs that are valid, and changed ones.
func TestManyPrograms(t *testing.T) {
	count := map[bool]int{}
	for m := range makers(2, 2500) {
		p := m.program(pick(m.Rand, someNames...))
		for range 4 {
			want := wantedValid(p)
			if control.Valid(p) != want {
				t.Fatalf("it is valid: %v: %s", !want, brief(p))
			}
			count[want]++
			if len(p.Vars) == 0 {
				break
			}
			p = m.changedProgram(p)
		}
	}
	if count[true] < 2000 || count[false] < 2000 {
		t.Errorf("%v", count)
	}
}
