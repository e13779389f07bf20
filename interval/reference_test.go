package interval_test

import (
	"math/big"
	"math/rand"
	"slices"
	"testing"

	"queuelab/api"
	"queuelab/interval"
)

// operation is one of two intervals; of gives its result for two numbers, without a limit. Joining has none.
type operation struct {
	name     string
	call     func(a, b api.Span) (api.Span, api.Errno)
	of       func(x, y *big.Int) *big.Int
	quotient bool
}

// operations returns all of them, that of joining last.
func operations() []operation {
	return append(results(), operation{name: "Join", call: interval.Join})
}

// results returns the operations that have results for numbers.
func results() []operation {
	return []operation{
		{"Add", interval.Add, func(x, y *big.Int) *big.Int { return new(big.Int).Add(x, y) }, false},
		{"Sub", interval.Sub, func(x, y *big.Int) *big.Int { return new(big.Int).Sub(x, y) }, false},
		{"Mul", interval.Mul, func(x, y *big.Int) *big.Int { return new(big.Int).Mul(x, y) }, false},
		{"Div", interval.Div, down, true},
		{"Up", interval.Up, up, true},
		{"Min", interval.Min, lesser, false},
		{"Max", interval.Max, greater, false},
	}
}

func operationOf(name string) operation {
	list := operations()
	return list[slices.IndexFunc(list, func(o operation) bool { return o.name == name })]
}

// down returns the greatest number that is at most x / y.
func down(x, y *big.Int) *big.Int {
	if y.Sign() < 0 {
		x, y = new(big.Int).Neg(x), new(big.Int).Neg(y)
	}
	// For a divisor above 0, Euclidean division, whose rest is never negative, rounds down.
	return new(big.Int).Div(x, y)
}

// up returns the least number that is at least x / y.
func up(x, y *big.Int) *big.Int {
	q := down(x, y)
	if new(big.Int).Mul(q, y).Cmp(x) != 0 {
		q.Add(q, big.NewInt(1))
	}
	return q
}

func lesser(x, y *big.Int) *big.Int {
	if x.Cmp(y) < 0 {
		return x
	}
	return y
}

func greater(x, y *big.Int) *big.Int {
	if x.Cmp(y) > 0 {
		return x
	}
	return y
}

func isValue(n *big.Int) bool { return n.CmpAbs(big.NewInt(most)) <= 0 }

func contains(s api.Span, n int) bool { return s.Low <= n && n <= s.High }

// wanted is the specification of an operation on two valid intervals that contain few numbers: it takes all of these.
func (o operation) wanted(a, b api.Span) (api.Span, api.Errno) {
	if o.quotient && contains(b, 0) {
		return api.Span{}, api.ErrZero
	}
	var least, greatest *big.Int
	for x := a.Low; x <= a.High; x++ {
		for y := b.Low; y <= b.High; y++ {
			n := o.of(big.NewInt(int64(x)), big.NewInt(int64(y)))
			if least == nil {
				least, greatest = n, n
			}
			least, greatest = lesser(least, n), greater(greatest, n)
		}
	}
	if !isValue(least) || !isValue(greatest) {
		return api.Span{}, api.ErrRange
	}
	return span(int(least.Int64()), int(greatest.Int64())), api.OK
}

func compare(t *testing.T, o operation, a, b api.Span) api.Errno {
	t.Helper()
	got, err := o.call(a, b)
	want, wantErr := o.wanted(a, b)
	if got != want || err != wantErr {
		t.Fatalf("%s %v %v: %v, %v; want %v, %v", o.name, a, b, got, err, want, wantErr)
	}
	return err
}

// P6.1, P6.2, P6.3: all pairs of intervals with numbers from -4 to 4.
func TestAllSmallIntervals(t *testing.T) {
	spans := smallSpans(4)
	for _, o := range results() {
		count := map[api.Errno]int{}
		for _, a := range spans {
			for _, b := range spans {
				count[compare(t, o, a, b)]++
			}
		}
		if count[api.OK] < 500 || count[api.ErrRange] > 0 || (count[api.ErrZero] > 0) != o.quotient {
			t.Errorf("%s: %v", o.name, count)
		}
	}
}

// smallSpans returns all intervals whose numbers have at most some size.
func smallSpans(size int) []api.Span {
	var list []api.Span
	for low := -size; low <= size; low++ {
		for high := low; high <= size; high++ {
			list = append(list, span(low, high))
		}
	}
	return list
}

// P6.1, P6.2, P6.3, P6.7: short intervals at any place, in particular where results cease to be values.
func TestShortIntervals(t *testing.T) {
	count := map[string]map[api.Errno]int{}
	for _, o := range results() {
		count[o.name] = map[api.Errno]int{}
	}
	m := newMaker(61)
	for range 3000 {
		a := m.short(m.number())
		b := m.short(m.number())
		if m.Intn(2) == 0 {
			b = m.short(m.counterpart(a.Low))
		}
		for _, o := range results() {
			count[o.name][compare(t, o, a, b)]++
		}
	}
	for _, o := range results() {
		limited := o.name == "Add" || o.name == "Sub" || o.name == "Mul"
		if n := count[o.name]; n[api.OK] < 500 || (n[api.ErrRange] > 200) != limited || (n[api.ErrZero] > 200) != o.quotient {
			t.Errorf("%s: %v", o.name, n)
		}
	}
}

// maker makes numbers and intervals.
type maker struct{ *rand.Rand }

func newMaker(seed int64) maker { return maker{rand.New(rand.NewSource(seed))} }

// within returns the value that is nearest to a number.
func within(n int) int { return min(max(n, -most), most) }

// number returns any value: one of any size, or one near an edge.
func (m maker) number() int {
	switch m.Intn(3) {
	case 0:
		return m.Intn(19) - 9
	case 1:
		edges := []int{most, most / 2, most - 1, 1000000, 1 << 32, 1 << 39, 1 << 20, 0}
		return m.sign() * within(edges[m.Intn(len(edges))]+m.Intn(5)-2)
	}
	return m.sign() * (m.Intn(most+1) >> m.Intn(40))
}

func (m maker) sign() int { return 2*m.Intn(2) - 1 }

// counterpart returns a number whose sum, difference or product with another one is near the greatest or the least value.
func (m maker) counterpart(x int) int {
	sign, near := m.sign(), m.Intn(5)-2
	if x != 0 && m.Intn(2) == 0 {
		return within(sign*(most/x) + near)
	}
	return within(sign*(most-x) + near)
}

// short returns an interval with few numbers, one of which is n.
func (m maker) short(n int) api.Span { return span(within(n-m.Intn(3)), within(n+m.Intn(3))) }

// span returns any interval.
func (m maker) span() api.Span {
	x, y := m.number(), m.number()
	if m.Intn(4) == 0 {
		return m.short(x)
	}
	return span(min(x, y), max(x, y))
}

// inside returns one of the numbers of an interval, often an end.
func (m maker) inside(s api.Span) int {
	switch m.Intn(6) {
	case 0:
		return s.Low
	case 1:
		return s.High
	}
	return s.Low + m.Intn(s.High-s.Low+1)
}

// narrower returns an interval inside another one.
func (m maker) narrower(s api.Span) api.Span {
	x, y := m.inside(s), m.inside(s)
	return span(min(x, y), max(x, y))
}
