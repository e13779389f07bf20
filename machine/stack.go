package machine

import "queuelab/api"

// room is how many numbers the stack has room for: no valid code needs more.
const room = 64

// machine has what instructions work on.
type machine struct {
	vars   []api.Var
	state  []int
	in     [api.Inputs]int
	stack  [room]int
	height int
}

// operations returns what instructions that lead to the next one do with their N, and the errors with which they fail.
func (m *machine) operations() [api.CoStore + 1]func(n int) api.Errno {
	return [...]func(n int) api.Errno{
		api.CoPush:  m.push,
		api.CoVar:   m.pushVariable,
		api.CoInput: m.pushInput,
		api.CoAdd:   m.add,
		api.CoSub:   m.subtract,
		api.CoMul:   m.multiply,
		api.CoDiv:   m.divideDown,
		api.CoUp:    m.divideUp,
		api.CoMin:   m.pushLesser,
		api.CoMax:   m.pushGreater,
		api.CoStore: m.store,
	}
}

// run runs valid code of a handler, and returns how many instructions were run, and the error of the last one.
func (m *machine) run(list []api.Instr) (steps int, err api.Errno) {
	operations := m.operations()
handler:
	for at := 0; at < len(list); {
		x := list[at]
		at++
		steps++
		switch x.Op {
		case api.CoJump:
			at = x.N
		case api.CoUnless:
			if !m.areRelated(x.Rel) {
				at = x.N
			}
		default:
			if err = operations[x.Op](x.N); err != api.OK {
				break handler
			}
		}
	}
	return steps, err
}

// push puts a number on the stack, which must be a value.
func (m *machine) push(n int) api.Errno {
	if !isValue(n) {
		return api.ErrRange
	}
	m.stack[m.height] = n
	m.height++
	return api.OK
}

// pop takes numbers from the stack, each from below the one before it.
func (m *machine) pop(numbers ...*int) {
	for _, n := range numbers {
		m.height--
		*n = m.stack[m.height]
	}
}

// operands takes two numbers from the stack, and returns them in the order in which they were pushed.
func (m *machine) operands() (a, b int) {
	m.pop(&b, &a)
	return a, b
}

func (m *machine) pushVariable(n int) api.Errno { return m.push(m.state[n]) }

func (m *machine) pushInput(n int) api.Errno { return m.push(m.in[n]) }

func (m *machine) store(n int) api.Errno {
	var number int
	m.pop(&number)
	if !between(number, m.vars[n].Low, m.vars[n].High) {
		return api.ErrOver
	}
	m.state[n] = number
	return api.OK
}

// areRelated takes two numbers from the stack, and reports whether they are in a relation.
func (m *machine) areRelated(rel int) bool {
	a, b := m.operands()
	switch rel {
	case api.RelLess:
		return a < b
	case api.RelAtMost:
		return a <= b
	case api.RelMore:
		return a > b
	case api.RelAtLeast:
		return a >= b
	case api.RelEqual:
		return a == b
	}
	return a != b
}
