package machine

import "queuelab/api"

func (m *machine) add(int) api.Errno {
	a, b := m.operands()
	return m.push(a + b)
}

func (m *machine) subtract(int) api.Errno {
	a, b := m.operands()
	return m.push(a - b)
}

func (m *machine) multiply(int) api.Errno {
	a, b := m.operands()
	// A product of values may not fit into an int, so it is computed only if it is a value.
	if a != 0 && max(b, -b) > api.MaxValue/max(a, -a) {
		return api.ErrRange
	}
	return m.push(a * b)
}

func (m *machine) divideDown(int) api.Errno {
	a, b := m.operands()
	if b == 0 {
		return api.ErrZero
	}
	return m.push(floor(a, b))
}

func (m *machine) divideUp(int) api.Errno {
	a, b := m.operands()
	if b == 0 {
		return api.ErrZero
	}
	// Down from the other side of 0 is up.
	return m.push(-floor(-a, b))
}

func (m *machine) pushLesser(int) api.Errno {
	a, b := m.operands()
	return m.push(min(a, b))
}

func (m *machine) pushGreater(int) api.Errno {
	a, b := m.operands()
	return m.push(max(a, b))
}

// floor returns a / b, rounded down; the language rounds towards zero.
func floor(a, b int) int {
	q := a / b
	if a%b != 0 && (a < 0) != (b < 0) {
		q--
	}
	return q
}
