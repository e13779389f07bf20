package ratio_test

import (
	"math/big"
	"testing"

	"queuelab/api"
	"queuelab/ratio"
)

// little returns a valid ratio with numbers up to 10000.
func (m maker) little() api.Ratio {
	num, den := m.Intn(10001)>>m.Intn(14), 1+m.Intn(10000)>>m.Intn(14)
	if m.Intn(4) == 0 {
		num, den = 10000-m.Intn(3), 10000-m.Intn(3)
	}
	return lowest(m.sign()*num, den)
}

// P12.2: with numbers up to 10000 all results but those of a division by 0 are in the range; the products crosswise fit into an int.
func TestExact(t *testing.T) {
	for m := range makers(1202, 100000) {
		a, b := m.little(), m.little()
		expectCross(t, "Add", a, b, a.Num*b.Den+b.Num*a.Den, a.Den*b.Den)
		expectCross(t, "Sub", a, b, a.Num*b.Den-b.Num*a.Den, a.Den*b.Den)
		expectCross(t, "Mul", a, b, a.Num*b.Num, a.Den*b.Den)
		if b.Num != 0 {
			expectCross(t, "Div", a, b, a.Num*b.Den, a.Den*b.Num)
		}
	}
}

func expectCross(t *testing.T, name string, a, b api.Ratio, num, den int) {
	t.Helper()
	got, err := operationOf(name).call(a, b)
	if err != api.OK || got.Den < 1 || got.Num*den != got.Den*num {
		t.Fatalf("%s %v %v: %v, %v; want %d/%d", name, a, b, got, err, num, den)
	}
}

// P12.3: arguments are exchanged, valid or not, with the same error too.
func TestExchange(t *testing.T) {
	count := tally{}
	check := func(name string, a, b api.Ratio) {
		got, err := operationOf(name).call(a, b)
		if other, otherErr := operationOf(name).call(b, a); got != other || err != otherErr {
			t.Fatalf("%s %v %v: %v, %v; exchanged: %v, %v", name, a, b, got, err, other, otherErr)
		}
		count.add(name, err)
	}
	for m := range makers(1203, 20000) {
		a, b := m.ratio(), m.ratio()
		for _, name := range []string{"Add", "Mul"} {
			check(name, a, b)
			check(name, a, m.counterpart(operationOf(name), a, b))
		}
	}
	for _, a := range wrongRatios() {
		for _, b := range append(rightRatios(), wrongRatios()...) {
			check("Add", a, b)
			check("Mul", a, b)
		}
	}
	for _, name := range []string{"Add", "Mul"} {
		count.expect(t, name, 2000, api.OK, api.ErrRange, api.ErrArg)
	}
}

// steps does operations one after the other, and remembers whether all results were in the range.
type steps struct{ failed bool }

func (s *steps) do(name string, a, b api.Ratio) api.Ratio {
	if s.failed {
		return api.Ratio{}
	}
	r, err := operationOf(name).call(a, b)
	s.failed = err != api.OK
	return r
}

// P12.3: three are joined in another order, and products distribute over sums.
func TestLaws(t *testing.T) {
	count := map[string]int{}
	for m := range makers(1204, 50000) {
		a, b, c := m.ratio(), m.ratio(), m.ratio()
		if m.Intn(2) == 0 {
			a, b, c = m.little(), m.little(), m.little()
		}
		check := func(law string, left, right func(s *steps) api.Ratio) {
			var s steps
			x, y := left(&s), right(&s)
			if s.failed {
				return
			}
			count[law]++
			if x != y {
				t.Fatalf("%s of %v %v %v: %v and %v", law, a, b, c, x, y)
			}
		}
		for _, name := range []string{"Add", "Mul"} {
			check(name, func(s *steps) api.Ratio { return s.do(name, s.do(name, a, b), c) }, func(s *steps) api.Ratio { return s.do(name, a, s.do(name, b, c)) })
		}
		check("distribution", func(s *steps) api.Ratio { return s.do("Mul", a, s.do("Add", b, c)) }, func(s *steps) api.Ratio { return s.do("Add", s.do("Mul", a, b), s.do("Mul", a, c)) })
	}
	if count["Add"] < 5000 || count["Mul"] < 5000 || count["distribution"] < 5000 {
		t.Errorf("%v", count)
	}
}

// P12.4: also where the sum or the product is at the edge of the range, and for the products by 0, which do not tell the other factor.
func TestInverse(t *testing.T) {
	sums, products, zeros := 0, 0, 0
	for m := range makers(1205, 50000) {
		a, b := m.ratio(), m.ratio()
		term, factor := b, b
		if m.Intn(2) == 0 {
			term, factor = m.counterpart(operationOf("Add"), a, b), m.counterpart(operationOf("Mul"), a, b)
		}
		if sum, err := ratio.Add(a, term); err == api.OK {
			sums++
			expectRows(t, []row{{name: "Sub", a: sum, b: term, want: a}, {name: "Sub", a: sum, b: a, want: term}})
		}
		product, err := ratio.Mul(a, factor)
		if err != api.OK {
			continue
		}
		for _, pair := range [][2]api.Ratio{{a, factor}, {factor, a}} {
			if pair[1].Num == 0 {
				zeros++
				expectRows(t, []row{{name: "Div", a: product, b: pair[1], err: api.ErrZero}})
			} else {
				products++
				expectRows(t, []row{{name: "Div", a: product, b: pair[1], want: pair[0]}})
			}
		}
	}
	if sums < 5000 || products < 5000 || zeros < 500 {
		t.Errorf("%d sums, %d products, %d zeros", sums, products, zeros)
	}
}

func order(t *testing.T, a, b api.Ratio) int {
	t.Helper()
	n, err := ratio.Cmp(a, b)
	if err != api.OK {
		t.Fatalf("Cmp %v %v: %v", a, b, err)
	}
	return n
}

// P12.5: the sign turns, and the order is transitive.
func TestOrder(t *testing.T) {
	count := map[int]int{}
	for m := range makers(1206, 50000) {
		a := m.ratio()
		b, c := m.neighbour(a), m.neighbour(a)
		if m.Intn(3) == 0 {
			b, c = m.ratio(), m.ratio()
		}
		ab, bc, ac := order(t, a, b), order(t, b, c), order(t, a, c)
		count[ab]++
		if order(t, b, a) != -ab || order(t, a, a) != 0 || (ab == 0) != (a == b) {
			t.Fatalf("%v %v: %d", a, b, ab)
		}
		// A result of 0 goes either way.
		for _, sign := range []int{1, -1} {
			if ab*sign >= 0 && bc*sign >= 0 && ac != sign*max(ab*sign, bc*sign) {
				t.Fatalf("%v %v %v: %d, %d, %d", a, b, c, ab, bc, ac)
			}
		}
	}
	if count[1] < 5000 || count[-1] < 5000 || count[0] < 500 {
		t.Errorf("%v", count)
	}
}

// P12.5: the sign of the difference, and the same added to both.
func TestOrderOfSums(t *testing.T) {
	differences, sums := 0, 0
	for m := range makers(1207, 50000) {
		a, b, c := m.ratio(), m.ratio(), m.ratio()
		if m.Intn(2) == 0 {
			b = m.neighbour(a)
		}
		ab := order(t, a, b)
		if d, err := ratio.Sub(a, b); err == api.OK {
			differences++
			if order(t, d, of(0, 1)) != ab || big.NewInt(int64(d.Num)).Sign() != ab {
				t.Fatalf("%v %v: %d, %v", a, b, ab, d)
			}
		}
		var s steps
		if x, y := s.do("Add", a, c), s.do("Add", b, c); !s.failed {
			sums++
			if order(t, x, y) != ab {
				t.Fatalf("%v %v, and %v: %d, but %v %v", a, b, c, ab, x, y)
			}
		}
	}
	if differences < 5000 || sums < 5000 {
		t.Errorf("%d differences, %d sums", differences, sums)
	}
}

// P12.6: results are valid; the definition is that of the reference.
func TestResultsAreValid(t *testing.T) {
	count := tally{}
	for m := range makers(1208, 50000) {
		a, b := m.ratio(), m.ratio()
		for _, o := range operations() {
			r, err := o.call(a, m.counterpart(o, a, b))
			count.add(o.name, err)
			if err == api.OK && !(wantedValid(r) && ratio.Valid(r)) || err != api.OK && r != (api.Ratio{}) {
				t.Fatalf("%s %v %v: %v, %v", o.name, a, b, r, err)
			}
		}
	}
	for _, o := range operations() {
		count.expect(t, o.name, 5000, api.OK, api.ErrRange)
	}
}

// P12.6: num and den multiplied by the same number, of either sign, as long as both are values.
func TestMultiplied(t *testing.T) {
	count := tally{}
	for m := range makers(1209, 50000) {
		num, den := m.number(), m.number()
		if m.Intn(4) == 0 {
			num *= 1 + m.Intn(1000)
		}
		want, wantErr := ratio.New(num, den)
		n := mostValue / max(num, -num, den, -den, 1)
		n = m.sign() * (1 + m.Intn(n)>>m.Intn(40))
		got, err := ratio.New(num*n, den*n)
		if got != want || err != wantErr {
			t.Fatalf("%d/%d: %v, %v; times %d: %v, %v", num, den, want, wantErr, n, got, err)
		}
		count.add("New", err)
	}
	count.expect(t, "New", 1000, api.OK, api.ErrRange, api.ErrZero)
}

// P12.7: the range of sums and products, which package big brings into lowest terms.
func TestRange(t *testing.T) {
	limit, count := big.NewInt(most), tally{}
	for m := range makers(1210, 50000) {
		a, b := m.ratio(), m.ratio()
		for _, name := range []string{"Add", "Sub", "Mul"} {
			o, x := operationOf(name), b
			if m.Intn(2) == 0 {
				x = m.counterpart(o, a, b)
			}
			exact := o.of(value(a), value(x))
			want := api.OK
			if exact.Num().CmpAbs(limit) > 0 || exact.Denom().Cmp(limit) > 0 {
				want = api.ErrRange
			}
			if _, err := o.call(a, x); err != want {
				t.Fatalf("%s %v %v: %v; want %v, since it is %v", name, a, x, err, want, exact)
			}
			count.add(name, want)
		}
	}
	for _, name := range []string{"Add", "Sub", "Mul"} {
		count.expect(t, name, 5000, api.OK, api.ErrRange)
	}
}
