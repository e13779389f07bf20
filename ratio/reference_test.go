package ratio_test

import (
	"math/big"
	"math/rand"
	"slices"
	"testing"

	"queuelab/api"
	"queuelab/ratio"
)

// operation is one on two ratios; of gives its result for their values, and nil if there is none.
type operation struct {
	name string
	call func(a, b api.Ratio) (api.Ratio, api.Errno)
	of   func(x, y *big.Rat) *big.Rat
}

func operations() []operation {
	return []operation{
		{"Add", ratio.Add, func(x, y *big.Rat) *big.Rat { return new(big.Rat).Add(x, y) }},
		{"Sub", ratio.Sub, func(x, y *big.Rat) *big.Rat { return new(big.Rat).Sub(x, y) }},
		{"Mul", ratio.Mul, func(x, y *big.Rat) *big.Rat { return new(big.Rat).Mul(x, y) }},
		{"Div", ratio.Div, func(x, y *big.Rat) *big.Rat {
			if y.Sign() == 0 {
				return nil
			}
			return new(big.Rat).Quo(x, y)
		}},
	}
}

func operationOf(name string) operation {
	list := operations()
	return list[slices.IndexFunc(list, func(o operation) bool { return o.name == name })]
}

// value returns the value of a ratio whose denominator is not 0.
func value(a api.Ratio) *big.Rat { return big.NewRat(int64(a.Num), int64(a.Den)) }

// wantedRatio returns the ratio of a value, whose parts package big keeps in lowest terms, with a denominator above 0; nil is none.
func wantedRatio(x *big.Rat) (api.Ratio, api.Errno) {
	if x == nil {
		return api.Ratio{}, api.ErrZero
	}
	if limit := big.NewInt(most); x.Num().CmpAbs(limit) > 0 || x.Denom().Cmp(limit) > 0 {
		return api.Ratio{}, api.ErrRange
	}
	return of(int(x.Num().Int64()), int(x.Denom().Int64())), api.OK
}

// wantedValid is the definition, with the greatest common divisor of package big.
func wantedValid(a api.Ratio) bool {
	return 1 <= a.Den && a.Den <= most && -most <= a.Num && a.Num <= most && value(a).Denom().Cmp(big.NewInt(int64(a.Den))) == 0
}

// wanted is the specification of an operation.
func (o operation) wanted(a, b api.Ratio) (api.Ratio, api.Errno) {
	if !wantedValid(a) || !wantedValid(b) {
		return api.Ratio{}, api.ErrArg
	}
	return wantedRatio(o.of(value(a), value(b)))
}

// compare checks the result of an operation, and returns its error.
func compare(t *testing.T, o operation, a, b api.Ratio) api.Errno {
	t.Helper()
	got, err := o.call(a, b)
	if want, wantErr := o.wanted(a, b); got != want || err != wantErr {
		t.Fatalf("%s %v %v: %v, %v; want %v, %v", o.name, a, b, got, err, want, wantErr)
	}
	return err
}

// compareCmp checks the order of two ratios, and returns its error.
func compareCmp(t *testing.T, a, b api.Ratio) api.Errno {
	t.Helper()
	want, wantErr := 0, api.ErrArg
	if wantedValid(a) && wantedValid(b) {
		want, wantErr = value(a).Cmp(value(b)), api.OK
	}
	got, err := ratio.Cmp(a, b)
	if got != want || err != wantErr {
		t.Fatalf("Cmp %v %v: %v, %v; want %v, %v", a, b, got, err, want, wantErr)
	}
	return err
}

// smallRatios returns all valid ratios whose numbers have at most some size.
func smallRatios(size int) []api.Ratio {
	var list []api.Ratio
	for num := -size; num <= size; num++ {
		for den := 1; den <= size; den++ {
			if a := of(num, den); wantedValid(a) {
				list = append(list, a)
			}
		}
	}
	return list
}

// P12.1, P12.2: all operations on all ratios with numbers up to 12.
func TestAllSmallRatios(t *testing.T) {
	list := smallRatios(12)
	for _, a := range list {
		for _, b := range list {
			for _, o := range operations() {
				if err := compare(t, o, a, b); (err != api.OK) != (o.name == "Div" && b.Num == 0) {
					t.Fatalf("%s %v %v: %v", o.name, a, b, err)
				}
			}
			compareCmp(t, a, b)
		}
	}
	if len(list) < 180 {
		t.Errorf("%d ratios", len(list))
	}
}

// P12.1: Valid and New, for all pairs of numbers up to 40, with a search for a common divisor.
func TestAllSmallNumbers(t *testing.T) {
	for num := -40; num <= 40; num++ {
		for den := -40; den <= 40; den++ {
			valid := den >= 1
			for n := 2; n <= 40; n++ {
				valid = valid && (num%n != 0 || den%n != 0)
			}
			if got := ratio.Valid(of(num, den)); got != valid {
				t.Fatalf("%d/%d: %v; want %v", num, den, got, valid)
			}
			compareNew(t, num, den)
		}
	}
}

// compareNew checks the ratio of two numbers, and returns its error.
func compareNew(t *testing.T, num, den int) api.Errno {
	t.Helper()
	var want api.Ratio
	var wantErr api.Errno
	switch {
	case max(num, den) > mostValue || min(num, den) < -mostValue:
		wantErr = api.ErrArg
	case den == 0:
		wantErr = api.ErrZero
	default:
		want, wantErr = wantedRatio(value(of(num, den)))
	}
	got, err := ratio.New(num, den)
	if got != want || err != wantErr {
		t.Fatalf("New %d %d: %v, %v; want %v, %v", num, den, got, err, want, wantErr)
	}
	return err
}

// P12.1: Valid and New, for numbers of all sizes, and those near the limits.
func TestAnyNumbers(t *testing.T) {
	m := newMaker(121)
	news, valid := tally{}, map[bool]int{}
	for range 100000 {
		num, den := m.anyNumber(), m.anyNumber()
		if m.Intn(2) == 0 {
			factor := 1 + m.Intn(2000)
			num, den = m.number()*factor, m.number()*factor
		}
		news.add("New", compareNew(t, num, den))
		a := of(num, den)
		if got := ratio.Valid(a); got != wantedValid(a) {
			t.Fatalf("%v: %v", a, got)
		}
		valid[ratio.Valid(a)]++
	}
	news.expect(t, "New", 500, api.OK, api.ErrArg, api.ErrZero, api.ErrRange)
	if valid[true] < 1000 || valid[false] < 1000 {
		t.Errorf("Valid: %v", valid)
	}
}

// P12.1, P12.2, P12.7: ratios of all sizes, in particular where results cease to be in the range.
func TestAnyRatios(t *testing.T) {
	count := tally{}
	for m := range makers(122, 50000) {
		a, b := m.ratio(), m.ratio()
		for _, o := range operations() {
			x := b
			if m.Intn(2) == 0 {
				x = m.counterpart(o, a, b)
			}
			count.add(o.name, compare(t, o, a, x))
		}
		if m.Intn(2) == 0 {
			b = m.neighbour(a)
		}
		count.add("Cmp", compareCmp(t, a, b))
	}
	for _, o := range operations() {
		count.expect(t, o.name, 5000, api.OK, api.ErrRange)
	}
	count.expect(t, "Div", 500, api.ErrZero)
	count.expect(t, "Cmp", 5000, api.OK)
}

// P12.1, P1: ratios that may not be valid, and mostly are not.
func TestAnyArguments(t *testing.T) {
	count := tally{}
	m := newMaker(123)
	for range 50000 {
		a, b := of(m.anyNumber(), m.anyNumber()), m.ratio()
		if m.Intn(2) == 0 {
			a, b = b, a
		}
		for _, o := range operations() {
			count.add(o.name, compare(t, o, a, b))
		}
		count.add("Cmp", compareCmp(t, a, b))
	}
	for _, name := range []string{"Add", "Sub", "Mul", "Div", "Cmp"} {
		count.expect(t, name, 1000, api.OK, api.ErrArg)
	}
}

// tally counts errors by the names of calls.
type tally map[string]map[api.Errno]int

func (c tally) add(name string, err api.Errno) {
	if c[name] == nil {
		c[name] = map[api.Errno]int{}
	}
	c[name][err]++
}

// expect checks that a call has ended often enough with each of some errors.
func (c tally) expect(t *testing.T, name string, least int, errs ...api.Errno) {
	t.Helper()
	for _, err := range errs {
		if c[name][err] < least {
			t.Errorf("%s: %v", name, c[name])
		}
	}
}

// maker makes numbers and ratios.
type maker struct{ *rand.Rand }

func newMaker(seed int64) maker { return maker{rand.New(rand.NewSource(seed))} }

// makers yields the same maker some times.
func makers(seed int64, times int) func(yield func(maker) bool) {
	return func(yield func(maker) bool) {
		m := newMaker(seed)
		for range times {
			if !yield(m) {
				return
			}
		}
	}
}

func (m maker) sign() int { return 2*m.Intn(2) - 1 }

// size returns a number from 1 to most: a small one, one that has many divisors or is near an edge, or another one.
func (m maker) size() int {
	switch m.Intn(5) {
	case 0:
		return 1 + m.Intn(12)
	case 1:
		edges := []int{most, most / 2, 31622, 100000, 1 << 16, 1 << 29, 1000}
		return min(max(edges[m.Intn(len(edges))]+m.Intn(7)-3, 1), most)
	case 2:
		n := 1
		for factors := []int{2, 3, 5, 7, 10}; n <= most/10; n *= factors[m.Intn(len(factors))] {
			if m.Intn(9) == 0 {
				break
			}
		}
		return n
	}
	return 1 + m.Intn(most)>>m.Intn(30)
}

// number returns a number of at most the size most, of any sign.
func (m maker) number() int {
	if m.Intn(20) == 0 {
		return 0
	}
	return m.sign() * m.size()
}

// anyNumber returns any number, often one that is no value.
func (m maker) anyNumber() int {
	switch m.Intn(6) {
	case 0:
		return int(m.Uint64())
	case 1:
		return m.sign() * (mostValue + m.Intn(5) - 2)
	case 2:
		return m.sign() * (m.Intn(mostValue+1) >> m.Intn(40))
	case 3:
		return m.sign() * (most + m.Intn(5) - 2)
	}
	return m.number()
}

// ratio returns any valid ratio.
func (m maker) ratio() api.Ratio { return lowest(m.number(), m.size()) }

func lowest(num, den int) api.Ratio {
	x := value(of(num, den))
	return of(int(x.Num().Int64()), int(x.Denom().Int64()))
}

// neighbour returns a ratio whose value is near that of another one.
func (m maker) neighbour(a api.Ratio) api.Ratio {
	num, den := a.Num+m.Intn(3)-1, a.Den+m.Intn(3)-1
	return lowest(min(max(num, -most), most), min(max(den, 1), most))
}

// counterpart returns a ratio with which the result of an operation on a is near the edge of the range, if there is one, and otherwise b.
func (m maker) counterpart(o operation, a, b api.Ratio) api.Ratio {
	edge := value(of(m.sign()*(most+m.Intn(3)-1), 1+m.Intn(3)))
	if m.Intn(2) == 0 && edge.Sign() != 0 {
		edge.Inv(edge)
	}
	inverse := map[string]string{"Add": "Sub", "Sub": "Sub", "Mul": "Div", "Div": "Div"}[o.name]
	x, y := edge, value(a)
	if inverse == o.name {
		x, y = y, x
	}
	if r, err := wantedRatio(operationOf(inverse).of(x, y)); err == api.OK {
		return r
	}
	return b
}
