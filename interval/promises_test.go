package interval_test

import (
	"math/big"
	"testing"

	"queuelab/api"
	"queuelab/interval"
)

// pairs yields many pairs of intervals of all sizes: small ones, those near the limits, and others; and what made them.
func pairs(seed int64) func(yield func(maker, [2]api.Span) bool) {
	return func(yield func(maker, [2]api.Span) bool) {
		m := newMaker(seed)
		for range 20000 {
			a, b := m.span(), m.span()
			switch m.Intn(3) {
			case 0:
				// Nearly all pairs of wide intervals have a result that is not a value.
				b = m.short(m.counterpart(a.High))
			case 1:
				// Divisors without 0.
				if b.Low <= 0 && b.High >= 0 {
					b = span(1, max(1, b.High))
				}
			}
			if !yield(m, [2]api.Span{a, b}) {
				return
			}
		}
	}
}

// expectCounts checks that an operation has been seen often enough with a result, and with each of its errors.
func expectCounts(t *testing.T, count map[string]map[api.Errno]int, names ...string) {
	t.Helper()
	for _, name := range names {
		n, o := count[name], operationOf(name)
		limited := name == "Add" || name == "Sub" || name == "Mul"
		if n[api.OK] < 1000 || (n[api.ErrRange] > 1000) != limited || (n[api.ErrZero] > 1000) != o.quotient {
			t.Errorf("%s: %v", name, n)
		}
	}
}

func add(count map[string]map[api.Errno]int, name string, err api.Errno) {
	if count[name] == nil {
		count[name] = map[api.Errno]int{}
	}
	count[name][err]++
}

func (o operation) number(x, y int) *big.Int { return o.of(big.NewInt(int64(x)), big.NewInt(int64(y))) }

// P6.2.
func TestContained(t *testing.T) {
	count := map[string]map[api.Errno]int{}
	for m, pair := range pairs(62) {
		a, b := pair[0], pair[1]
		for _, o := range results() {
			s, err := o.call(a, b)
			add(count, o.name, err)
			for range 5 {
				x, y := m.inside(a), m.inside(b)
				if err != api.OK || o.quotient && y == 0 {
					break
				}
				if n := o.number(x, y); n.Cmp(big.NewInt(int64(s.Low))) < 0 || n.Cmp(big.NewInt(int64(s.High))) > 0 {
					t.Fatalf("%s %v %v: %v, without %v for %d and %d", o.name, a, b, s, n, x, y)
				}
			}
		}
		joined, err := interval.Join(a, b)
		if err != api.OK || !contains(joined, m.inside(a)) || !contains(joined, m.inside(b)) {
			t.Fatalf("Join %v %v: %v, %v", a, b, joined, err)
		}
	}
	expectCounts(t, count, "Add", "Sub", "Mul", "Div", "Up", "Min", "Max")
}

// P6.3; for Join, that each end is one of either interval.
func TestLeast(t *testing.T) {
	for _, pair := range pairs(63) {
		a, b := pair[0], pair[1]
		for _, o := range results() {
			s, err := o.call(a, b)
			if err != api.OK {
				continue
			}
			low, high := false, false
			for _, x := range []int{a.Low, a.High} {
				for _, y := range []int{b.Low, b.High} {
					n := o.number(x, y)
					low = low || n.Cmp(big.NewInt(int64(s.Low))) == 0
					high = high || n.Cmp(big.NewInt(int64(s.High))) == 0
				}
			}
			if !low || !high {
				t.Fatalf("%s %v %v: %v", o.name, a, b, s)
			}
		}
		s, _ := interval.Join(a, b)
		if s.Low != a.Low && s.Low != b.Low || s.High != a.High && s.High != b.High {
			t.Fatalf("Join %v %v: %v", a, b, s)
		}
	}
}

// P6.4.
func TestNarrower(t *testing.T) {
	count := map[string]map[api.Errno]int{}
	for m, pair := range pairs(64) {
		a, b := pair[0], pair[1]
		c, d := m.narrower(a), m.narrower(b)
		for _, o := range operations() {
			wide, wideErr := o.call(a, b)
			narrow, err := o.call(c, d)
			if err != api.OK && err != wideErr {
				t.Fatalf("%s %v %v: %v; %v %v: %v", o.name, a, b, wideErr, c, d, err)
			}
			if wideErr == api.OK && (!contains(wide, narrow.Low) || !contains(wide, narrow.High)) {
				t.Fatalf("%s %v %v: %v; %v %v: %v", o.name, a, b, wide, c, d, narrow)
			}
			add(count, o.name, err)
		}
	}
	expectCounts(t, count, "Add", "Sub", "Mul", "Div", "Up", "Min", "Max", "Join")
}

// turned returns the interval of the numbers with the other sign.
func turned(s api.Span) api.Span { return span(-s.High, -s.Low) }

// expectTurned checks that the result of an operation is that of another one with the other sign, and that their errors are the same.
func expectTurned(t *testing.T, name string, a, b api.Span, other string, c, d api.Span) api.Errno {
	t.Helper()
	s, err := operationOf(name).call(a, b)
	want, wantErr := operationOf(other).call(c, d)
	if s != turned(want) || err != wantErr {
		t.Fatalf("%s %v %v: %v, %v; %s %v %v: %v, %v", name, a, b, s, err, other, c, d, want, wantErr)
	}
	return err
}

// P6.5; and the same for sums, differences and products.
func TestSigns(t *testing.T) {
	count := map[string]map[api.Errno]int{}
	for _, pair := range pairs(65) {
		a, b := pair[0], pair[1]
		add(count, "Up", expectTurned(t, "Up", a, b, "Div", turned(a), b))
		add(count, "Up", expectTurned(t, "Up", a, b, "Div", a, turned(b)))
		add(count, "Div", expectTurned(t, "Div", a, b, "Up", turned(a), b))
		add(count, "Max", expectTurned(t, "Max", a, b, "Min", turned(a), turned(b)))
		add(count, "Min", expectTurned(t, "Min", a, b, "Max", turned(a), turned(b)))
		add(count, "Add", expectTurned(t, "Add", a, b, "Add", turned(a), turned(b)))
		add(count, "Sub", expectTurned(t, "Sub", a, b, "Sub", b, a))
		add(count, "Mul", expectTurned(t, "Mul", a, b, "Mul", turned(a), b))
	}
	expectCounts(t, count, "Add", "Sub", "Mul", "Div", "Up", "Min", "Max")
}

// P6.6: both intervals are exchanged, valid or not.
func TestExchange(t *testing.T) {
	names := []string{"Add", "Mul", "Min", "Max", "Join"}
	count := map[string]map[api.Errno]int{}
	check := func(name string, a, b api.Span) api.Errno {
		s, err := operationOf(name).call(a, b)
		if other, otherErr := operationOf(name).call(b, a); s != other || err != otherErr {
			t.Fatalf("%s %v %v: %v, %v; exchanged: %v, %v", name, a, b, s, err, other, otherErr)
		}
		return err
	}
	for _, pair := range pairs(66) {
		a, b := pair[0], pair[1]
		for _, name := range names {
			add(count, name, check(name, a, b))
		}
	}
	expectCounts(t, count, names...)
	for _, a := range wrongSpans() {
		for _, b := range append(wrongSpans(), span(1, 2)) {
			for _, name := range names {
				check(name, a, b)
			}
		}
	}
}

// P6.6: joining an interval with one that it contains.
func TestJoinInside(t *testing.T) {
	for m, pair := range pairs(67) {
		a, b := pair[0], pair[1]
		for _, s := range []api.Span{a, b} {
			expectSpan(t, "Join", s, m.narrower(s), s)
			expectSpan(t, "Join", m.narrower(s), s, s)
			expectSpan(t, "Join", s, s, s)
		}
	}
}

// wantedError returns the error of an operation, by the chapter; the results for the ends tell whether all are values.
func (o operation) wantedError(a, b api.Span) api.Errno {
	switch {
	case !interval.Valid(a) || !interval.Valid(b):
		return api.ErrArg
	case o.quotient && contains(b, 0):
		return api.ErrZero
	}
	for _, x := range []int{a.Low, a.High} {
		for _, y := range []int{b.Low, b.High} {
			if o.of != nil && !isValue(o.number(x, y)) {
				return api.ErrRange
			}
		}
	}
	return api.OK
}

// P6.7, and P1: with an error, there is no interval.
func TestErrors(t *testing.T) {
	count := map[string]map[api.Errno]int{}
	for m, pair := range pairs(68) {
		a, b := pair[0], pair[1]
		switch m.Intn(6) {
		case 0:
			a.Low, a.High = a.High, a.Low
		case 1:
			b.High += m.Intn(most)
		case 2:
			a.Low -= m.Intn(most)
		}
		for _, o := range operations() {
			s, err := o.call(a, b)
			want := o.wantedError(a, b)
			if err != want || err != api.OK && s != (api.Span{}) || err == api.OK && !interval.Valid(s) {
				t.Fatalf("%s %v %v: %v, %v; want %v", o.name, a, b, s, err, want)
			}
			add(count, o.name, err)
		}
	}
	expectCounts(t, count, "Add", "Sub", "Mul", "Div", "Up", "Min", "Max", "Join")
	for _, o := range operations() {
		if count[o.name][api.ErrArg] < 1000 {
			t.Errorf("%s: %v", o.name, count[o.name])
		}
	}
}
