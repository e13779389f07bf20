package ratio_test

import (
	"math"
	"testing"

	"queuelab/api"
	"queuelab/ratio"
)

const (
	most      = 1000000000
	mostValue = 1000000000000
)

func of(num, den int) api.Ratio { return api.Ratio{Num: num, Den: den} }

// row is a case: the ratio that is wanted, or an error if there is one.
type row struct {
	name       string
	a, b, want api.Ratio
	err        api.Errno
}

func expectRows(t *testing.T, rows []row) {
	t.Helper()
	for _, r := range rows {
		if got, err := operationOf(r.name).call(r.a, r.b); got != r.want || err != r.err {
			t.Errorf("%s %v %v: %v, %v; want %v, %v", r.name, r.a, r.b, got, err, r.want, r.err)
		}
	}
}

func expectNew(t *testing.T, num, den int, want api.Ratio, wantErr api.Errno) {
	t.Helper()
	if got, err := ratio.New(num, den); got != want || err != wantErr {
		t.Errorf("New %d %d: %v, %v; want %v, %v", num, den, got, err, want, wantErr)
	}
}

// P12.1: the section Examples.
func TestExamples(t *testing.T) {
	expectRows(t, []row{
		{name: "Add", a: of(1, 6), b: of(1, 10), want: of(4, 15)},
		{name: "Sub", a: of(2, 3), b: of(2, 3), want: of(0, 1)},
		{name: "Mul", a: of(-2, 3), b: of(9, 4), want: of(-3, 2)},
		{name: "Div", a: of(1, 2), b: of(0, 1), err: api.ErrZero},
		{name: "Add", a: of(1, 99999), b: of(1, 100000), err: api.ErrRange},
	})
	expectNew(t, 6, -4, of(-3, 2), api.OK)
}

// wrongRatios returns ratios that are not valid.
func wrongRatios() []api.Ratio {
	return []api.Ratio{
		{}, of(1, 0), of(-1, 0), of(most, 0), of(1, -1), of(-1, -1), of(0, -1), of(1, -2), of(most, -most),
		of(0, 2), of(0, 7), of(0, most), of(2, 2), of(2, 4), of(-2, 4), of(3, 6), of(6, 3), of(-6, 3), of(35, 21), of(most, most), of(-most, most), of(most, 2), of(2, most), of(most/2, most), of(2*499999993, 499999993), of(31607*31601, 31607),
		of(most+1, 1), of(-most-1, 1), of(1, most+1), of(-1, most+1), of(most+1, most), of(most+1, most+1), of(most+1, 0), of(0, most+1),
		of(mostValue, 1), of(1, mostValue), of(1<<32, 1), of(1, 1<<32), of(1<<32+1, 1<<32+2),
		of(math.MaxInt, 1), of(math.MinInt, 1), of(1, math.MaxInt), of(1, math.MinInt), of(math.MinInt, math.MinInt), of(math.MinInt, math.MaxInt), of(math.MaxInt, math.MinInt), of(math.MinInt, 0), of(math.MinInt, -1), of(0, math.MinInt),
	}
}

func rightRatios() []api.Ratio {
	return []api.Ratio{
		of(0, 1), of(1, 1), of(-1, 1), of(1, 2), of(-1, 2), of(2, 3), of(-3, 2), of(8, 9), of(35, 12),
		of(most, 1), of(-most, 1), of(1, most), of(-1, most), of(most, most-1), of(most-1, most), of(1-most, most), of(-most, most-1), of(512, 1953125), of(1953125, 512), of(1<<29, 999999999),
	}
}

// P12.1: L1.
func TestValid(t *testing.T) {
	for _, a := range rightRatios() {
		if !ratio.Valid(a) {
			t.Errorf("%v is valid", a)
		}
	}
	for _, a := range wrongRatios() {
		if ratio.Valid(a) {
			t.Errorf("%v is not valid", a)
		}
	}
}

// P12.1: L3, L4 and L5, a ratio that is not valid is the first error, on both sides, even where the others apply.
func TestWrongRatios(t *testing.T) {
	wrong := wrongRatios()
	for _, a := range wrong {
		for _, b := range append(rightRatios(), wrong...) {
			for _, pair := range [][2]api.Ratio{{a, b}, {b, a}} {
				for _, o := range operations() {
					expectRows(t, []row{{name: o.name, a: pair[0], b: pair[1], err: api.ErrArg}})
				}
				if n, err := ratio.Cmp(pair[0], pair[1]); n != 0 || err != api.ErrArg {
					t.Errorf("Cmp %v: %v, %v", pair, n, err)
				}
			}
		}
	}
}

// P12.1: L2, with all signs, with common divisors, and at the edges of the range and of values.
func TestNew(t *testing.T) {
	for _, x := range []struct {
		num, den int
		want     api.Ratio
	}{
		{0, 1, of(0, 1)}, {0, 5, of(0, 1)}, {0, -5, of(0, 1)}, {0, mostValue, of(0, 1)}, {0, -mostValue, of(0, 1)},
		{3, 1, of(3, 1)}, {6, 4, of(3, 2)}, {-6, 4, of(-3, 2)}, {6, -4, of(-3, 2)}, {-6, -4, of(3, 2)}, {4, 6, of(2, 3)}, {7, 7, of(1, 1)}, {7, -7, of(-1, 1)}, {35, 21, of(5, 3)}, {5, 3, of(5, 3)},
		{most, 1, of(most, 1)}, {-most, 1, of(-most, 1)}, {most, -1, of(-most, 1)}, {1, most, of(1, most)}, {1, -most, of(-1, most)}, {most, most - 1, of(most, most-1)},
		{2 * most, 2, of(most, 1)}, {-2 * most, 2, of(-most, 1)}, {2, 2 * most, of(1, most)}, {2, -2 * most, of(-1, most)}, {2*most - 2, 2 * most, of(most-1, most)},
		{mostValue, mostValue, of(1, 1)}, {-mostValue, mostValue, of(-1, 1)}, {-mostValue, -mostValue, of(1, 1)}, {mostValue, 1000, of(most, 1)}, {1000, mostValue, of(1, most)}, {mostValue - 1000, -mostValue, of(1-most, most)},
	} {
		expectNew(t, x.num, x.den, x.want, api.OK)
	}
}

// P12.1: L2, its errors and their order.
func TestNewErrors(t *testing.T) {
	for _, wrong := range []int{mostValue + 1, -mostValue - 1, math.MaxInt, math.MinInt} {
		for _, n := range []int{0, 1, -1, mostValue, -mostValue, wrong} {
			expectNew(t, wrong, n, api.Ratio{}, api.ErrArg)
			expectNew(t, n, wrong, api.Ratio{}, api.ErrArg)
		}
	}
	for _, num := range []int{0, 1, -1, 5, most, most + 1, mostValue, -mostValue} {
		expectNew(t, num, 0, api.Ratio{}, api.ErrZero)
	}
	for _, pair := range [][2]int{{most + 1, 1}, {most + 1, 2}, {most + 1, most + 2}, {mostValue, 1}, {mostValue, 999}, {mostValue, mostValue - 1}, {2*most + 2, 2}, {2*most + 1, 2}} {
		for _, sign := range []int{1, -1} {
			expectNew(t, sign*pair[0], pair[1], api.Ratio{}, api.ErrRange)
			expectNew(t, pair[0], sign*pair[1], api.Ratio{}, api.ErrRange)
			expectNew(t, sign*pair[1], pair[0], api.Ratio{}, api.ErrRange)
			expectNew(t, pair[1], sign*pair[0], api.Ratio{}, api.ErrRange)
		}
	}
}

// P12.1, P12.7: L3, sums and differences, also at the edges of the range; 1000000000 is 512 * 1953125, and 1000000001 is 1001 * 999001.
func TestSums(t *testing.T) {
	expectRows(t, []row{
		{name: "Add", a: of(0, 1), b: of(0, 1), want: of(0, 1)},
		{name: "Add", a: of(0, 1), b: of(-3, 7), want: of(-3, 7)},
		{name: "Add", a: of(1, 2), b: of(1, 3), want: of(5, 6)},
		{name: "Add", a: of(1, 2), b: of(1, 2), want: of(1, 1)},
		{name: "Add", a: of(1, 2), b: of(-1, 3), want: of(1, 6)},
		{name: "Add", a: of(-1, 2), b: of(1, 3), want: of(-1, 6)},
		{name: "Add", a: of(-5, 6), b: of(-1, 10), want: of(-14, 15)},
		{name: "Add", a: of(3, 4), b: of(-3, 4), want: of(0, 1)},
		{name: "Add", a: of(most-1, 1), b: of(1, 1), want: of(most, 1)},
		{name: "Add", a: of(most, 1), b: of(1, 1), err: api.ErrRange},
		{name: "Add", a: of(1-most, 1), b: of(-1, 1), want: of(-most, 1)},
		{name: "Add", a: of(-most, 1), b: of(-1, 1), err: api.ErrRange},
		{name: "Add", a: of(most, 1), b: of(-most, 1), want: of(0, 1)},
		{name: "Add", a: of(most, 1), b: of(most, 1), err: api.ErrRange},
		{name: "Add", a: of(most-1, 2), b: of(1, 2), want: of(most/2, 1)},
		{name: "Add", a: of(most-1, 17), b: of(1, 17), want: of(most, 17)},
		{name: "Add", a: of(most, 17), b: of(1, 17), err: api.ErrRange},
		{name: "Add", a: of(1, 512), b: of(1, 1953125), want: of(1953637, most)},
		{name: "Add", a: of(1, 1001), b: of(1, 999001), err: api.ErrRange},
		{name: "Add", a: of(1, most), b: of(most-1, most), want: of(1, 1)},
		{name: "Add", a: of(most-1, most), b: of(most-1, most), want: of(most-1, most/2)},
		{name: "Add", a: of(1, most), b: of(1, most-1), err: api.ErrRange},
		{name: "Add", a: of(most, 1), b: of(1, most), err: api.ErrRange},
		{name: "Add", a: of(most, most-1), b: of(most-1, most), err: api.ErrRange},
		{name: "Sub", a: of(0, 1), b: of(3, 7), want: of(-3, 7)},
		{name: "Sub", a: of(1, 2), b: of(1, 3), want: of(1, 6)},
		{name: "Sub", a: of(1, 3), b: of(1, 2), want: of(-1, 6)},
		{name: "Sub", a: of(-1, 2), b: of(-1, 3), want: of(-1, 6)},
		{name: "Sub", a: of(5, 6), b: of(1, 10), want: of(11, 15)},
		{name: "Sub", a: of(5, 6), b: of(-1, 6), want: of(1, 1)},
		{name: "Sub", a: of(most, 1), b: of(most, 1), want: of(0, 1)},
		{name: "Sub", a: of(most-1, 1), b: of(-1, 1), want: of(most, 1)},
		{name: "Sub", a: of(most, 1), b: of(-1, 1), err: api.ErrRange},
		{name: "Sub", a: of(-most, 1), b: of(1, 1), err: api.ErrRange},
		{name: "Sub", a: of(0, 1), b: of(most, 1), want: of(-most, 1)},
		{name: "Sub", a: of(1, 2), b: of(most, 1), err: api.ErrRange},
		{name: "Sub", a: of(-most, 1), b: of(most, most-1), err: api.ErrRange},
		{name: "Sub", a: of(1, 512), b: of(1, 1953125), want: of(1952613, most)},
		{name: "Sub", a: of(1, 1001), b: of(1, 999001), err: api.ErrRange},
		{name: "Sub", a: of(1, most-1), b: of(1, most), err: api.ErrRange},
		{name: "Sub", a: of(most-1, most), b: of(-1, most), want: of(1, 1)},
	})
}

// P12.1, P12.7: L3 and L4, products and quotients, also at the edges of the range.
func TestProducts(t *testing.T) {
	expectRows(t, []row{
		{name: "Mul", a: of(0, 1), b: of(-5, 7), want: of(0, 1)},
		{name: "Mul", a: of(most, 1), b: of(0, 1), want: of(0, 1)},
		{name: "Mul", a: of(2, 3), b: of(5, 7), want: of(10, 21)},
		{name: "Mul", a: of(2, 3), b: of(3, 2), want: of(1, 1)},
		{name: "Mul", a: of(-2, 3), b: of(-9, 4), want: of(3, 2)},
		{name: "Mul", a: of(2, 3), b: of(-9, 4), want: of(-3, 2)},
		{name: "Mul", a: of(most, 1), b: of(1, most), want: of(1, 1)},
		{name: "Mul", a: of(most, 1), b: of(-1, 1), want: of(-most, 1)},
		{name: "Mul", a: of(most, 1), b: of(2, 1), err: api.ErrRange},
		{name: "Mul", a: of(most, 1), b: of(most, 1), err: api.ErrRange},
		{name: "Mul", a: of(-most, 1), b: of(most, 1), err: api.ErrRange},
		{name: "Mul", a: of(1, most), b: of(1, most), err: api.ErrRange},
		{name: "Mul", a: of(1, most), b: of(1, 2), err: api.ErrRange},
		{name: "Mul", a: of(1, most), b: of(2, 1), want: of(1, most/2)},
		{name: "Mul", a: of(1, 100000), b: of(-1, 10000), want: of(-1, most)},
		{name: "Mul", a: of(1, 512), b: of(1, 1953125), want: of(1, most)},
		{name: "Mul", a: of(-512, 3), b: of(1953125, 7), want: of(-most, 21)},
		{name: "Mul", a: of(1, 1001), b: of(1, 999001), err: api.ErrRange},
		{name: "Mul", a: of(1001, 2), b: of(999001, 3), err: api.ErrRange},
		{name: "Mul", a: of(-1001, 2), b: of(999001, 3), err: api.ErrRange},
		{name: "Mul", a: of(most-1, most), b: of(most, most-1), want: of(1, 1)},
		{name: "Mul", a: of(most-1, most), b: of(most-1, most), err: api.ErrRange},
		{name: "Div", a: of(0, 1), b: of(-5, 7), want: of(0, 1)},
		{name: "Div", a: of(2, 3), b: of(4, 3), want: of(1, 2)},
		{name: "Div", a: of(2, 3), b: of(-4, 9), want: of(-3, 2)},
		{name: "Div", a: of(-2, 3), b: of(-4, 9), want: of(3, 2)},
		{name: "Div", a: of(-2, 3), b: of(4, 9), want: of(-3, 2)},
		{name: "Div", a: of(1, 1), b: of(most, 1), want: of(1, most)},
		{name: "Div", a: of(1, 1), b: of(-1, most), want: of(-most, 1)},
		{name: "Div", a: of(-most, 1), b: of(-most, 1), want: of(1, 1)},
		{name: "Div", a: of(1, most), b: of(-1, most), want: of(-1, 1)},
		{name: "Div", a: of(1, most), b: of(most, 1), err: api.ErrRange},
		{name: "Div", a: of(most, 1), b: of(1, most), err: api.ErrRange},
		{name: "Div", a: of(-most, 1), b: of(1, 2), err: api.ErrRange},
		{name: "Div", a: of(1, 2), b: of(-most, 1), err: api.ErrRange},
		{name: "Div", a: of(512, 3), b: of(7, 1953125), want: of(most, 21)},
		{name: "Div", a: of(1001, 2), b: of(3, 999001), err: api.ErrRange},
		{name: "Div", a: of(2, 1001), b: of(-999001, 3), err: api.ErrRange},
		{name: "Div", a: of(most-1, most), b: of(most-1, most), want: of(1, 1)},
	})
}

// P12.1: L4, a divisor of the value 0, also where the dividend has it.
func TestZero(t *testing.T) {
	for _, a := range rightRatios() {
		expectRows(t, []row{{name: "Div", a: a, b: of(0, 1), err: api.ErrZero}})
	}
}

// P12.1: L5, also for values that are so near to each other that floats do not tell them apart.
func TestCmp(t *testing.T) {
	for _, x := range []struct {
		a, b api.Ratio
		want int
	}{
		{of(1, 3), of(1, 4), 1}, {of(-1, 3), of(-1, 4), -1}, {of(-1, 3), of(1, 4), -1}, {of(2, 7), of(2, 7), 0}, {of(0, 1), of(0, 1), 0},
		{of(0, 1), of(1, most), -1}, {of(0, 1), of(-1, most), 1}, {of(3, 2), of(1, 1), 1}, {of(2, 3), of(3, 4), -1},
		{of(most, 1), of(most-1, 1), 1}, {of(-most, 1), of(most, 1), -1}, {of(most, 1), of(1, most), 1}, {of(most, 1), of(most, 1), 0}, {of(-1, most), of(-most, 1), 1},
		{of(most-1, most), of(1, 1), -1}, {of(most-1, most), of(most-2, most-1), 1}, {of(1-most, most), of(2-most, most-1), -1}, {of(1, most), of(1, most-1), -1}, {of(most, most-1), of(most-1, most-2), -1},
	} {
		for _, turned := range []bool{false, true} {
			a, b, want := x.a, x.b, x.want
			if turned {
				a, b, want = b, a, -want
			}
			if got, err := ratio.Cmp(a, b); got != want || err != api.OK {
				t.Errorf("Cmp %v %v: %v, %v; want %v", a, b, got, err, want)
			}
		}
	}
}
