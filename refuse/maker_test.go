package refuse_test

import (
	"math/rand"
	"slices"
	"strconv"

	"queuelab/api"
)

func pick[T any](m maker, from ...T) T { return from[m.Intn(len(from))] }

// maker makes programs, as texts, over variables of few numbers, all in packets, and calls for them.
type maker struct {
	*rand.Rand
	vars []api.Var
}

// makers yields so many of them, each with other variables.
func makers(seed int64, count int) func(yield func(maker) bool) {
	return func(yield func(maker) bool) {
		r := rand.New(rand.NewSource(seed))
		for range count {
			m := maker{Rand: r}
			m.vars = m.someVars()
			if !yield(m) {
				return
			}
		}
	}
}

func (m maker) someVars() []api.Var {
	vars := make([]api.Var, 1+m.Intn(3))
	for i := range vars {
		low := pick(m, 0, 0, 0, 0, 1, 2)
		v := api.Var{Name: "v" + string(rune('a'+i)), Low: low, High: low + m.Intn(12)}
		v.Init = pick(m, v.Low, v.High, v.High, v.Low+m.Intn(v.High-v.Low+1))
		vars[i] = v
	}
	return vars
}

func packets(n int) string { return strconv.Itoa(n) + " packets" }

// inside returns a number of a variable, often the least or the greatest one.
func (m maker) inside(v api.Var) int { return pick(m, v.Low, v.High, v.Low+m.Intn(v.High-v.Low+1)) }

// expr returns an expression in packets, with operations at most so deep in each other.
func (m maker) expr(depth int) string {
	if depth == 0 || m.Intn(3) == 0 {
		v := pick(m, m.vars...)
		return pick(m, v.Name, v.Name, packets(m.Intn(5)), packets(m.inside(v)), "acked", "total")
	}
	a, b := m.expr(depth-1), m.expr(depth-1)
	switch m.Intn(9) {
	case 0:
		return "min(" + a + ", " + b + ")"
	case 1:
		return "max(" + a + ", " + b + ")"
	case 2:
		return "(" + a + " / 2)"
	case 3:
		return "up(" + a + ", 3)"
	case 4:
		return "(" + a + ") * (" + b + " / max(" + m.expr(0) + ", 1 packets))"
	}
	return "(" + a + pick(m, " + ", " - ") + b + ")"
}

// condition returns one that is often so in few states only.
func (m maker) condition() string {
	v := pick(m, m.vars...)
	return v.Name + " " + pick(m, "<", "<=", ">", ">=", "==", "==", "!=") + " " + pick(m, packets(m.inside(v)), packets(m.inside(v)), m.expr(1))
}

// stmts returns statements, with others at most so deep in them.
func (m maker) stmts(depth int) string {
	text := ""
	for range 1 + m.Intn(2) {
		text += m.stmt(depth)
	}
	return text
}

// stmt returns one that seldom fails, so that runs are not too short.
func (m maker) stmt(depth int) string {
	v := pick(m, m.vars...)
	low, high := packets(v.Low), packets(v.High)
	switch n := m.Intn(60); {
	case n == 0:
		return v.Name + " = " + m.expr(1) + "; "
	case n == 1:
		return v.Name + " = " + v.Name + pick(m, " + ", " - ") + pick(m, "1 packets", "acked") + "; "
	case n < 7:
		return "if " + m.corner() + " { " + m.failure(v.Name) + "} "
	case n < 22 && depth > 0:
		return "if " + m.condition() + " { " + m.stmts(depth-1) + "} else { " + m.stmts(depth-1) + "} "
	case n < 37:
		return "if " + v.Name + " < " + high + " { " + v.Name + " = " + v.Name + " + 1 packets; } "
	case n < 48:
		return "if " + v.Name + " > " + low + " { " + v.Name + " = " + v.Name + " - 1 packets; } "
	case n < 50:
		return v.Name + " = " + packets(m.inside(v)) + "; "
	}
	return v.Name + " = max(min(" + m.expr(2) + ", " + high + "), " + low + "); "
}

// corner returns a condition that is not so at first, if possible.
func (m maker) corner() string {
	v := pick(m, m.vars...)
	if v.High-v.Init > v.Init-v.Low {
		return v.Name + pick(m, " == ", " >= ") + packets(v.High)
	}
	return v.Name + pick(m, " == ", " <= ") + packets(v.Low)
}

// failure returns a statement that assigns to a variable and mostly fails, or leads to a state that may be stuck.
func (m maker) failure(name string) string {
	return pick(m, name+" = 10000 packets; ", name+" = "+name+" / (total / (5000 packets)); ", name+" = 1000000000 packets * 1000000; ", m.vars[0].Name+" = "+packets(m.vars[0].Low)+"; ")
}

// source returns the text of a program.
func (m maker) source() string {
	text := "program p { "
	for _, v := range m.vars {
		text += "var " + v.Name + " packets " + strconv.Itoa(v.Low) + " " + strconv.Itoa(v.High) + " " + strconv.Itoa(v.Init) + "; "
	}
	for _, event := range []string{"ack", "loss", "mark", "timeout", "path"} {
		text += "on " + event + " { " + m.stmts(2) + "} "
	}
	return text + "window " + pick(m, m.vars...).Name + "; }"
}

// call returns a valid one.
func (m maker) call() api.Call {
	return api.Call{Event: m.Intn(api.Events), In: [api.Inputs]int{pick(m, 1, 1, 2, 1000), 1 + m.Intn(10000000), 1 + m.Intn(10000), pick(m, 0, 0, 1, 3, 4000)}}
}

// calls returns so many of them.
func (m maker) calls(count int) []api.Call {
	var list []api.Call
	for range count {
		list = append(list, m.call())
	}
	return list
}

// doubled returns calls with some that occur twice, each after the first time it occurs.
func (m maker) doubled(calls []api.Call) []api.Call {
	list := slices.Clone(calls)
	for range 1 + m.Intn(8-len(calls)) {
		i := m.Intn(len(list))
		list = slices.Insert(list, i+1+m.Intn(len(list)-i), list[i])
	}
	return list
}
