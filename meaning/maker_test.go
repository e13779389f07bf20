package meaning_test

import (
	"math/rand"
	"slices"
	"strconv"
	"strings"

	"queuelab/api"
)

func pick[T any](m maker, from ...T) T { return from[m.Intn(len(from))] }

// maker makes programs, as texts, over variables, and whatever they are run with.
type maker struct {
	*rand.Rand
	vars []api.Var
}

// makers yields so many of them, each with other variables.
func makers(seed int64, count int) func(yield func(maker) bool) {
	return func(yield func(maker) bool) {
		r := rand.New(rand.NewSource(seed))
		for range count {
			m := maker{Rand: r}
			m.vars = m.someVars()
			if !yield(m) {
				return
			}
		}
	}
}

// someVars returns variables, of which the first one is in packets, with ranges of few numbers.
func (m maker) someVars() []api.Var {
	vars := make([]api.Var, 1+m.Intn(5))
	for i := range vars {
		low := pick(m, 0, 0, 1, 1, 2, 7, 990, 999999980)
		v := api.Var{Name: "v" + string(rune('a'+i)), Unit: m.Intn(5), Low: low, High: low + m.Intn(12)}
		v.Init = v.Low + m.Intn(v.High-v.Low+1)
		vars[i] = v
	}
	vars[0].Unit = api.UnitPackets
	return vars
}

// unitName returns the word for a kind of a unit.
func unitName(kind int) string {
	return [...]string{"none", "packets", "bytes", "time", "rate"}[kind]
}

func number(n, kind int) string { return strconv.Itoa(n) + " " + unitName(kind) }

// leaf returns a number, an input or a variable.
func (m maker) leaf(kind int) string {
	if m.Intn(3) == 0 {
		return number(pick(m, 0, 1, 2, 3, 5, m.Intn(20), m.Intn(1000000001)), kind)
	}
	leaves := []string{number(m.Intn(12), kind)}
	for _, v := range m.vars {
		if v.Unit == kind {
			leaves = append(leaves, v.Name, v.Name, v.Name)
		}
	}
	inputs := [][]string{api.UnitPackets: {"acked", "total"}, api.UnitBytes: {"size"}, api.UnitTime: {"rtt"}, api.UnitRate: nil}
	return pick(m, append(leaves, inputs[kind]...)...)
}

// expr returns an expression with the unit of a kind, and operations at most so deep in each other.
func (m maker) expr(kind, depth int) string {
	if depth == 0 || m.Intn(4) == 0 {
		return m.leaf(kind)
	}
	depth--
	switch m.Intn(6) {
	case 0:
		return pair("*", m.expr(kind, depth), m.expr(api.UnitNone, depth))
	case 1:
		return pair("*", m.expr(api.UnitNone, depth), m.expr(kind, depth))
	case 2:
		dividend, divisor := kind, api.UnitNone
		if kind == api.UnitNone {
			dividend = m.Intn(5)
			divisor = dividend
		}
		return pair(pick(m, "/", "up"), m.expr(dividend, depth), m.divisor(divisor, depth))
	}
	return pair(pick(m, "+", "-", "min", "max"), m.expr(kind, depth), m.expr(kind, depth))
}

// divisor returns an expression that is often greater than 0.
func (m maker) divisor(kind, depth int) string {
	if m.Intn(3) == 0 {
		return m.expr(kind, depth)
	}
	return pair("max", m.expr(kind, depth), number(1+m.Intn(5), kind))
}

// pair returns an operation on two expressions.
func pair(operation, a, b string) string {
	if len(operation) > 1 {
		return operation + "(" + a + ", " + b + ")"
	}
	return "(" + a + " " + operation + " " + b + ")"
}

// stmts returns statements, with others at most so deep in them.
func (m maker) stmts(depth int) string {
	text := ""
	for range m.Intn(4) {
		text += m.stmt(depth)
	}
	return text
}

func (m maker) stmt(depth int) string {
	if depth == 0 || m.Intn(2) == 0 {
		return m.assignment()
	}
	text := "if " + m.condition() + " { " + m.stmts(depth-1) + "} "
	if m.Intn(4) > 0 {
		text += "else { " + m.stmts(depth-1) + "} "
	}
	return text
}

// condition returns two expressions in a relation, which is often so in some states only.
func (m maker) condition() string {
	kind := m.Intn(5)
	a, b := m.expr(kind, m.Intn(3)), m.expr(kind, m.Intn(3))
	if m.Intn(2) == 0 {
		v := pick(m, m.vars...)
		a, b = v.Name, number(v.Low+m.Intn(v.High-v.Low+1), v.Unit)
	}
	return a + " " + pick(m, "<", "<=", ">", ">=", "==", "!=") + " " + b
}

// assignment returns one that mostly leads into the range of its variable, but perhaps not quite.
func (m maker) assignment() string {
	v := pick(m, m.vars...)
	e := m.expr(v.Unit, 2)
	switch m.Intn(6) {
	case 0:
		return v.Name + " = " + e + "; "
	case 1:
		return v.Name + " = " + v.Name + pick(m, " + ", " - ") + number(1, v.Unit) + "; "
	}
	low, high := v.Low, v.High
	if m.Intn(20) == 0 {
		high++
	}
	if m.Intn(20) == 0 {
		low = max(low-1, 0)
	}
	return v.Name + " = " + pair("max", pair("min", e, number(min(high, 1000000000), v.Unit)), number(low, v.Unit)) + "; "
}

// source returns the text of a program in which two handlers together are not too long.
func (m maker) source() string {
	for {
		text := "program p { "
		for _, v := range m.vars {
			text += "var " + v.Name + " " + unitName(v.Unit) + " " + strconv.Itoa(v.Low) + " " + strconv.Itoa(v.High) + " " + strconv.Itoa(v.Init) + "; "
		}
		short := true
		for _, event := range []string{"ack", "loss", "mark", "timeout", "path"} {
			handler := m.stmts(2)
			short = short && strings.Count(handler, ";")+strings.Count(handler, "if") <= 50
			text += "on " + event + " { " + handler + "} "
		}
		text += "window va; }"
		if _, ok := build(text); ok && short {
			return text
		}
	}
}

// inside returns a number from low to high, often one of these.
func (m maker) inside(low, high int) int {
	switch m.Intn(4) {
	case 0:
		return low
	case 1:
		return high
	}
	return low + m.Intn(high-low+1)
}

// state returns one of the variables.
func (m maker) state() []int {
	var state []int
	for _, v := range m.vars {
		state = append(state, m.inside(v.Low, v.High))
	}
	return state
}

// inputs returns right ones.
func (m maker) inputs() [api.Inputs]int {
	return [api.Inputs]int{m.inside(1, 1000), m.inside(1, 10000000), m.inside(1, 10000), m.inside(0, 4000)}
}

// call returns a valid one.
func (m maker) call() api.Call { return api.Call{Event: m.Intn(api.Events), In: m.inputs()} }

// value returns any value: a small one, or one near the limits, or one of any size.
func (m maker) value() int {
	sign := pick(m, 1, -1)
	switch m.Intn(4) {
	case 0:
		return sign * m.Intn(11)
	case 1:
		return sign * (most - m.Intn(3))
	case 2:
		return sign * (1000000 + m.Intn(3) - 1)
	}
	return sign * (m.Intn(most+1) >> m.Intn(40))
}

// values returns so many of them.
func (m maker) values(count int) []int {
	values := make([]int, count)
	for i := range values {
		values[i] = m.value()
	}
	return values
}

// anyExpr returns an expression of any operations over some variables, mostly a well-formed one.
func (m maker) anyExpr(vars, depth int) api.Expr {
	if depth > 0 && m.Intn(5) > 0 {
		return node(api.ExAdd+m.Intn(7), m.anyExpr(vars, depth-1), m.anyExpr(vars, depth-1))
	}
	leaves := []api.Expr{plain(m.value()), input(m.Intn(4))}
	if vars > 0 {
		leaves = append(leaves, variable(m.Intn(vars)), variable(m.Intn(vars)))
	}
	return pick(m, leaves...)
}

// changedExpr returns an expression with something else in a place.
func (m maker) changedExpr(e api.Expr) api.Expr {
	e.Kids = slices.Clone(e.Kids)
	if len(e.Kids) > 0 && m.Intn(3) > 0 {
		i := m.Intn(len(e.Kids))
		e.Kids[i] = m.changedExpr(e.Kids[i])
		return e
	}
	switch m.Intn(4) {
	case 0:
		e.Op = pick(m, -1, 0, 1, 2, 3, 4, 7, 10, 11)
	case 1:
		e.N = pick(m, -1, 0, 1, 3, 4, 11, 12, most+1, -most-1)
	case 2:
		e.Kids = append(e.Kids, pick(m, plain(0), variable(0)))
	case 3:
		e.Kids = e.Kids[:len(e.Kids)/2]
	}
	return e
}
