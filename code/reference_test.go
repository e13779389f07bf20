package code_test

import (
	"slices"

	"queuelab/api"
)

// The reference computes at which index each instruction will be before it writes it.

func nodes(e api.Expr) int {
	n := 1
	for _, kid := range e.Kids {
		n += nodes(kid)
	}
	return n
}

// length returns how many instructions statements have: one for each node, for each statement, and for each if with an Else.
func length(list []api.Stmt) int {
	n := 0
	for _, s := range list {
		n += nodes(s.A) + 1
		if s.Kind == api.StIf {
			n += nodes(s.B) + length(s.Then) + length(s.Else)
			if len(s.Else) > 0 {
				n++
			}
		}
	}
	return n
}

// codeOfExpr returns the code of an expression.
func codeOfExpr(e api.Expr) []api.Instr {
	switch e.Op {
	case api.ExNumber:
		return []api.Instr{{Op: api.CoPush, N: e.N}}
	case api.ExVar:
		return []api.Instr{{Op: api.CoVar, N: e.N}}
	case api.ExInput:
		return []api.Instr{{Op: api.CoInput, N: e.N}}
	}
	// Both count operations in the same order.
	return slices.Concat(codeOfExpr(e.Kids[0]), codeOfExpr(e.Kids[1]), []api.Instr{{Op: api.CoAdd + e.Op - api.ExAdd}})
}

// codeOf returns the code of statements that begins at an index.
func codeOf(list []api.Stmt, at int) []api.Instr {
	if len(list) == 0 {
		return nil
	}
	s, next := list[0], at+length(list[:1])
	c := codeOfExpr(s.A)
	if s.Kind == api.StAssign {
		return slices.Concat(c, []api.Instr{{Op: api.CoStore, N: s.Var}}, codeOf(list[1:], next))
	}
	c = append(c, codeOfExpr(s.B)...)
	other := next - length(s.Else)
	c = append(c, api.Instr{Op: api.CoUnless, N: other, Rel: s.Rel})
	c = append(c, codeOf(s.Then, at+len(c))...)
	if len(s.Else) > 0 {
		c = append(c, api.Instr{Op: api.CoJump, N: next})
	}
	return slices.Concat(c, codeOf(s.Else, other), codeOf(list[1:], next))
}

// row returns what an operation takes and puts, whether its relation matters, and from which to which number N is; ok says whether there is such a row in the chapter's table.
func row(op, index, end, vars int) (takes, puts int, related bool, low, high int, ok bool) {
	switch op {
	case api.CoPush:
		return 0, 1, false, -1000000000000, 1000000000000, true
	case api.CoVar:
		return 0, 1, false, 0, vars - 1, true
	case api.CoInput:
		return 0, 1, false, 0, 3, true
	case api.CoAdd, api.CoSub, api.CoMul, api.CoDiv, api.CoUp, api.CoMin, api.CoMax:
		return 2, 1, false, 0, 0, true
	case api.CoStore:
		return 1, 0, false, 0, vars - 1, true
	case api.CoUnless:
		return 2, 0, true, index + 1, end, true
	case api.CoJump:
		return 0, 0, false, index + 1, end, true
	}
	return 0, 0, false, 0, 0, false
}

// effect returns by how many numbers an instruction makes the stack higher.
func effect(x api.Instr) int {
	takes, puts, _, _, _, _ := row(x.Op, 0, 0, 1)
	return puts - takes
}

// isInTable reports whether an instruction is as in the chapter's table.
func isInTable(list []api.Instr, i, vars int) bool {
	x := list[i]
	_, _, related, low, high, ok := row(x.Op, i, len(list), vars)
	if related {
		ok = ok && 1 <= x.Rel && x.Rel <= 6
	} else {
		ok = ok && x.Rel == 0
	}
	return ok && low <= x.N && x.N <= high
}

// ways returns where a run can continue after an instruction.
func ways(list []api.Instr, i int) []int {
	switch x := list[i]; x.Op {
	case api.CoUnless:
		return []int{i + 1, x.N}
	case api.CoJump:
		return []int{x.N}
	}
	return []int{i + 1}
}

// heightsOf returns all heights that each instruction and the end of code as in the table have, by any way: also those that are not right.
func heightsOf(list []api.Instr) []map[int]bool {
	heights := make([]map[int]bool, len(list)+1)
	for i := range heights {
		heights[i] = map[int]bool{}
	}
	heights[0][0] = true
	for i, x := range list {
		for height := range heights[i] {
			for _, to := range ways(list, i) {
				heights[to][height+effect(x)] = true
			}
		}
	}
	return heights
}

// isValid reports whether code of a handler is valid for so many variables.
func isValid(list []api.Instr, vars int) bool {
	for i := range list {
		if !isInTable(list, i, vars) {
			return false
		}
	}
	for i, set := range heightsOf(list) {
		takes := 0
		if i < len(list) {
			takes, _, _, _, _, _ = row(list[i].Op, i, len(list), vars)
		}
		if len(set) != 1 {
			return false
		}
		for height := range set {
			if height < takes || height > 64 || i == len(list) && height != 0 {
				return false
			}
		}
	}
	return len(list) <= 4000
}
