package interval_test

import (
	"math"
	"testing"

	"queuelab/api"
	"queuelab/interval"
)

const most = 1000000000000

func span(low, high int) api.Span { return api.Span{Low: low, High: high} }

// all is the widest interval.
var all = span(-most, most)

func expectSpan(t *testing.T, name string, a, b, want api.Span) {
	t.Helper()
	if got, err := operationOf(name).call(a, b); got != want || err != api.OK {
		t.Errorf("%s %v %v: %v, %v; want %v", name, a, b, got, err, want)
	}
}

func expectError(t *testing.T, name string, a, b api.Span, want api.Errno) {
	t.Helper()
	if got, err := operationOf(name).call(a, b); got != (api.Span{}) || err != want {
		t.Errorf("%s %v %v: %v, %v; want %v", name, a, b, got, err, want)
	}
}

// row is a case: the interval that is wanted, or an error if there is one.
type row struct {
	name       string
	a, b, want api.Span
	err        api.Errno
}

func expectRows(t *testing.T, rows []row) {
	t.Helper()
	for _, r := range rows {
		if r.err != api.OK {
			expectError(t, r.name, r.a, r.b, r.err)
		} else {
			expectSpan(t, r.name, r.a, r.b, r.want)
		}
	}
}

// P6.1: the section Examples.
func TestExamples(t *testing.T) {
	expectRows(t, []row{
		{name: "Mul", a: span(-2, 3), b: span(-5, 4), want: span(-15, 12)},
		{name: "Div", a: span(-7, 7), b: span(2, 3), want: span(-4, 3)},
		{name: "Up", a: span(-7, 7), b: span(2, 3), want: span(-3, 4)},
		{name: "Div", a: span(1, 5), b: span(-1, 1), err: api.ErrZero},
		{name: "Up", a: span(1, 5), b: span(-1, 1), err: api.ErrZero},
		{name: "Add", a: span(most, most), b: span(0, 1), err: api.ErrRange},
	})
}

// wrongSpans returns intervals that are not valid.
func wrongSpans() []api.Span {
	return []api.Span{
		span(1, 0), span(0, -1), span(-5, -6), span(3, 2), span(most, most-1), span(1-most, -most), span(most, -most),
		span(-most-1, 0), span(-most-1, most), span(-most-1, -most-1), span(0, most+1), span(-most, most+1), span(most+1, most+1), span(-most-1, most+1),
		span(most+1, 0), span(0, -most-1), span(most+1, -most-1),
		span(math.MinInt, 0), span(0, math.MaxInt), span(math.MinInt, math.MaxInt), span(math.MaxInt, math.MinInt), span(math.MinInt, math.MinInt), span(math.MaxInt, math.MaxInt), span(-1, math.MinInt),
	}
}

// P6.1: F1.
func TestValid(t *testing.T) {
	for _, s := range []api.Span{{}, span(0, 1), span(-1, 0), span(-1, 1), span(3, 3), span(-3, -3), all, span(most, most), span(-most, -most), span(-most, 1-most), span(most-1, most), span(-most, 0), span(0, most)} {
		if !interval.Valid(s) {
			t.Errorf("%v is valid", s)
		}
	}
	for _, s := range wrongSpans() {
		if interval.Valid(s) {
			t.Errorf("%v is not valid", s)
		}
	}
}

// P6.1, P6.7: an interval that is not valid is the first error, on both sides, even where the others apply.
func TestWrongSpans(t *testing.T) {
	right := []api.Span{{}, span(1, 1), span(-1, 1), span(2, 5), span(-5, -2), span(most, most), span(-most, -most), all}
	for _, o := range operations() {
		for _, wrong := range wrongSpans() {
			for _, s := range append(right, wrongSpans()...) {
				expectError(t, o.name, wrong, s, api.ErrArg)
				expectError(t, o.name, s, wrong, api.ErrArg)
			}
		}
	}
}

// P6.1: F2, sums and differences, also at the greatest and the least values.
func TestSums(t *testing.T) {
	expectRows(t, []row{
		{name: "Add", a: span(1, 2), b: span(-5, 4), want: span(-4, 6)},
		{name: "Add", a: span(0, 0), b: span(0, 0), want: span(0, 0)},
		{name: "Add", a: all, b: span(0, 0), want: all},
		{name: "Add", a: all, b: span(0, 1), err: api.ErrRange},
		{name: "Add", a: all, b: span(-1, 0), err: api.ErrRange},
		{name: "Add", a: span(most, most), b: span(-1, 0), want: span(most-1, most)},
		{name: "Add", a: span(-most, -most), b: span(0, 1), want: span(-most, 1-most)},
		{name: "Add", a: span(-most, -most), b: span(-1, 0), err: api.ErrRange},
		{name: "Add", a: span(-most, 0), b: span(0, most), want: all},
		{name: "Add", a: span(-most, 0), b: span(-1, most), err: api.ErrRange},
		{name: "Add", a: span(most, most), b: span(most, most), err: api.ErrRange},
		{name: "Add", a: span(-most, -most), b: span(most, most), want: span(0, 0)},
		{name: "Sub", a: span(1, 2), b: span(5, 9), want: span(-8, -3)},
		{name: "Sub", a: span(5, 9), b: span(1, 2), want: span(3, 8)},
		{name: "Sub", a: span(3, 5), b: span(3, 5), want: span(-2, 2)},
		{name: "Sub", a: span(0, 0), b: all, want: all},
		{name: "Sub", a: span(0, 1), b: all, err: api.ErrRange},
		{name: "Sub", a: span(-1, 0), b: all, err: api.ErrRange},
		{name: "Sub", a: span(-most, 0), b: span(0, 1), err: api.ErrRange},
		{name: "Sub", a: span(-most, 0), b: span(-most, 0), want: all},
		{name: "Sub", a: span(most, most), b: span(-1, 0), err: api.ErrRange},
		{name: "Sub", a: span(most, most), b: span(most, most), want: span(0, 0)},
	})
}

// P6.1: F2, products, of all signs and also those that are much too great.
func TestProducts(t *testing.T) {
	expectRows(t, []row{
		{name: "Mul", a: span(2, 3), b: span(4, 5), want: span(8, 15)},
		{name: "Mul", a: span(-3, -2), b: span(-5, -4), want: span(8, 15)},
		{name: "Mul", a: span(-3, -2), b: span(4, 5), want: span(-15, -8)},
		{name: "Mul", a: span(2, 3), b: span(-5, -4), want: span(-15, -8)},
		{name: "Mul", a: span(-3, 2), b: span(4, 5), want: span(-15, 10)},
		{name: "Mul", a: span(-3, 2), b: span(-5, 4), want: span(-12, 15)},
		{name: "Mul", a: span(0, 0), b: all, want: span(0, 0)},
		{name: "Mul", a: all, b: span(0, 0), want: span(0, 0)},
		{name: "Mul", a: all, b: span(1, 1), want: all},
		{name: "Mul", a: span(-1, -1), b: all, want: all},
		{name: "Mul", a: span(-1, 1), b: all, want: all},
		{name: "Mul", a: span(0, 2), b: span(0, most), err: api.ErrRange},
		{name: "Mul", a: span(-2, 0), b: span(0, most), err: api.ErrRange},
		{name: "Mul", a: span(0, 2), b: span(-most/2, most/2), want: all},
		{name: "Mul", a: span(0, 2), b: span(-most/2, most/2+1), err: api.ErrRange},
		{name: "Mul", a: span(0, 2), b: span(-most/2-1, most/2), err: api.ErrRange},
		{name: "Mul", a: span(1000000, 1000000), b: span(-1000000, 1000000), want: all},
		{name: "Mul", a: span(1000001, 1000001), b: span(-1000000, 0), err: api.ErrRange},
		{name: "Mul", a: span(1000001, 1000001), b: span(999999, 999999), want: span(most-1, most-1)},
		{name: "Mul", a: all, b: all, err: api.ErrRange},
		{name: "Mul", a: span(-most, 0), b: span(most, most), err: api.ErrRange},
		// Their products by the arithmetic of the machine, with its wraparound, would be values.
		{name: "Mul", a: span(1<<32, 1<<32), b: span(1<<32, 1<<32), err: api.ErrRange},
		{name: "Mul", a: span(-1<<32, -1<<32), b: span(1<<32, 1<<32), err: api.ErrRange},
		{name: "Mul", a: span(1<<39, 1<<39), b: span(1<<25, 1<<25), err: api.ErrRange},
		{name: "Mul", a: span(0, 1<<36), b: span(1<<28, 1<<28), err: api.ErrRange},
		// Only one of the four products for the ends is not a value.
		{name: "Mul", a: span(1, 1000001), b: span(1, 1000000), err: api.ErrRange},
		{name: "Mul", a: span(-1000001, -1), b: span(1, 1000000), err: api.ErrRange},
		{name: "Mul", a: span(1, 1000001), b: span(-1000000, -1), err: api.ErrRange},
		{name: "Mul", a: span(-1000001, -1), b: span(-1000000, -1), err: api.ErrRange},
		{name: "Mul", a: span(-1000000, 1000000), b: span(-1000000, 1000000), want: all},
	})
}

// P6.1: F3, quotients of all signs.
func TestQuotients(t *testing.T) {
	expectRows(t, []row{
		{name: "Div", a: span(5, 9), b: span(2, 4), want: span(1, 4)},
		{name: "Up", a: span(5, 9), b: span(2, 4), want: span(2, 5)},
		{name: "Div", a: span(-9, -5), b: span(2, 4), want: span(-5, -2)},
		{name: "Up", a: span(-9, -5), b: span(2, 4), want: span(-4, -1)},
		{name: "Div", a: span(5, 9), b: span(-4, -2), want: span(-5, -2)},
		{name: "Up", a: span(5, 9), b: span(-4, -2), want: span(-4, -1)},
		{name: "Div", a: span(-9, -5), b: span(-4, -2), want: span(1, 4)},
		{name: "Up", a: span(-9, -5), b: span(-4, -2), want: span(2, 5)},
		{name: "Div", a: span(-7, 7), b: span(-3, -2), want: span(-4, 3)},
		{name: "Up", a: span(-7, 7), b: span(-3, -2), want: span(-3, 4)},
		{name: "Div", a: span(0, 0), b: span(1, most), want: span(0, 0)},
		{name: "Up", a: span(0, 0), b: span(-most, -1), want: span(0, 0)},
		{name: "Div", a: all, b: span(1, 1), want: all},
		{name: "Up", a: all, b: span(-1, -1), want: all},
		{name: "Div", a: span(1, 1), b: span(most, most), want: span(0, 0)},
		{name: "Up", a: span(1, 1), b: span(most, most), want: span(1, 1)},
		{name: "Div", a: span(-1, -1), b: span(most, most), want: span(-1, -1)},
		{name: "Up", a: span(-1, -1), b: span(most, most), want: span(0, 0)},
		{name: "Div", a: all, b: span(most, most), want: span(-1, 1)},
		{name: "Div", a: all, b: span(most-1, most), want: span(-2, 1)},
		{name: "Up", a: all, b: span(most-1, most), want: span(-1, 2)},
	})
}

// P6.1, P6.7: F3, divisors that contain 0, inside and at both ends.
func TestZero(t *testing.T) {
	for _, name := range []string{"Div", "Up"} {
		for _, a := range []api.Span{{}, span(1, 5), span(-5, -1), all, span(most, most)} {
			for _, b := range []api.Span{{}, span(-1, 1), span(0, 1), span(0, 3), span(-1, 0), span(-3, 0), span(0, most), span(-most, 0), all} {
				expectError(t, name, a, b, api.ErrZero)
			}
		}
	}
}

// P6.1: F4, intervals that are apart, overlap, or are inside each other.
func TestLesserAndGreater(t *testing.T) {
	for _, x := range []struct{ a, b, min, max, join api.Span }{
		{span(1, 9), span(3, 4), span(1, 4), span(3, 9), span(1, 9)},
		{span(1, 2), span(8, 9), span(1, 2), span(8, 9), span(1, 9)},
		{span(1, 5), span(3, 9), span(1, 5), span(3, 9), span(1, 9)},
		{span(-9, -8), span(-2, -1), span(-9, -8), span(-2, -1), span(-9, -1)},
		{span(-3, 4), span(-3, 4), span(-3, 4), span(-3, 4), span(-3, 4)},
		{span(2, 2), span(2, 2), span(2, 2), span(2, 2), span(2, 2)},
		{span(1, 2), span(2, 3), span(1, 2), span(2, 3), span(1, 3)},
		{all, span(0, 0), span(-most, 0), span(0, most), all},
		{span(-most, -most), span(most, most), span(-most, -most), span(most, most), all},
	} {
		expectRows(t, []row{
			{name: "Min", a: x.a, b: x.b, want: x.min}, {name: "Max", a: x.a, b: x.b, want: x.max}, {name: "Join", a: x.a, b: x.b, want: x.join},
			{name: "Min", a: x.b, b: x.a, want: x.min}, {name: "Max", a: x.b, b: x.a, want: x.max}, {name: "Join", a: x.b, b: x.a, want: x.join},
		})
	}
}
