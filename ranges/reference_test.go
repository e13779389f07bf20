package ranges_test

import (
	"math/big"
	"slices"
	"testing"

	"queuelab/api"
	"queuelab/ranges"
)

// valueOf is the result of an operation for two numbers, without a limit; it is nil for a quotient by 0.
func valueOf(op int, x, y *big.Int) *big.Int {
	n, rest := new(big.Int), new(big.Int)
	switch op {
	case api.ExAdd:
		return n.Add(x, y)
	case api.ExSub:
		return n.Sub(x, y)
	case api.ExMul:
		return n.Mul(x, y)
	case api.ExMin, api.ExMax:
		if (x.Cmp(y) < 0) == (op == api.ExMin) {
			return x
		}
		return y
	}
	if y.Sign() == 0 {
		return nil
	}
	n.QuoRem(x, y, rest)
	if rest.Sign() != 0 && (rest.Sign() == y.Sign()) == (op == api.ExUp) {
		n.Add(n, big.NewInt(map[bool]int64{true: 1, false: -1}[op == api.ExUp]))
	}
	return n
}

func isValue(n *big.Int) bool { return n.CmpAbs(big.NewInt(most)) <= 0 }

// wantedForm reports whether an expression is well-formed, apart from its kids.
func wantedForm(vars int, e api.Expr) bool {
	switch len(e.Kids) {
	case 0:
		return e.Op == 1 && e.N >= 0 && e.N <= 1000000000 || e.Op == 2 && e.N >= 0 && e.N < vars || e.Op == 3 && e.N >= 0 && e.N < 4
	case 2:
		return e.Op >= 4 && e.Op <= 10
	}
	return false
}

// wantedSpan is the specification of the interval of an expression: all kids, then the form, then the operation, by its results for the ends.
func wantedSpan(vars []api.Span, in [api.Inputs]api.Span, e api.Expr) (api.Span, api.Errno) {
	kids := make([]api.Span, len(e.Kids))
	for i, kid := range e.Kids {
		s, err := wantedSpan(vars, in, kid)
		if err != api.OK {
			return api.Span{}, err
		}
		kids[i] = s
	}
	if !wantedForm(len(vars), e) {
		return api.Span{}, api.ErrArg
	}
	switch e.Op {
	case api.ExNumber:
		return span(e.N, e.N), api.OK
	case api.ExVar:
		return vars[e.N], api.OK
	case api.ExInput:
		return in[e.N], api.OK
	}
	a, b := kids[0], kids[1]
	if (e.Op == api.ExDiv || e.Op == api.ExUp) && b.Low <= 0 && b.High >= 0 {
		return api.Span{}, api.ErrZero
	}
	var results []int
	for _, x := range []int{a.Low, a.High} {
		for _, y := range []int{b.Low, b.High} {
			n := valueOf(e.Op, big.NewInt(int64(x)), big.NewInt(int64(y)))
			if !isValue(n) {
				return api.Span{}, api.ErrRange
			}
			results = append(results, int(n.Int64()))
		}
	}
	return span(slices.Min(results), slices.Max(results)), api.OK
}

// wantedEval is the specification of Eval for intervals that are valid.
func wantedEval(vars []api.Span, in [api.Inputs]api.Span, e api.Expr) (api.Span, api.Errno) {
	if size(e) > 60 {
		return api.Span{}, api.ErrLimit
	}
	return wantedSpan(vars, in, e)
}

func size(e api.Expr) int {
	nodes := 1
	for _, kid := range e.Kids {
		nodes += size(kid)
	}
	return nodes
}

// related reports whether two numbers are in a relation.
func related(x, rel, y int) bool {
	return [...]bool{api.RelLess: x < y, api.RelAtMost: x <= y, api.RelMore: x > y, api.RelAtLeast: x >= y, api.RelEqual: x == y, api.RelOther: x != y}[rel]
}

// relatedSpans reports whether some numbers of two intervals are in a relation. If there are such numbers, there are some among the ends of both.
func relatedSpans(a api.Span, rel int, b api.Span) bool {
	ends := []int{a.Low, a.High, b.Low, b.High}
	for _, x := range ends {
		for _, y := range ends {
			if contains(a, x) && contains(b, y) && related(x, rel, y) {
				return true
			}
		}
	}
	return false
}

func contains(s api.Span, n int) bool { return s.Low <= n && n <= s.High }

// remains is the chapter's table: whether a number of s remains if it is cut by b.
func remains(n int, s api.Span, rel int, b api.Span) bool {
	end := n == s.Low || n == s.High
	return [...]bool{
		api.RelLess:    n < b.High,
		api.RelAtMost:  n <= b.High,
		api.RelMore:    n > b.Low,
		api.RelAtLeast: n >= b.Low,
		api.RelEqual:   n >= b.Low && n <= b.High,
		api.RelOther:   b.Low < b.High || n != b.Low || !end,
	}[rel]
}

// wantedCut looks at each number of an interval, which has few; it returns false if none remains.
func wantedCut(s api.Span, rel int, b api.Span) (api.Span, bool) {
	var numbers []int
	for n := s.Low; n <= s.High; n++ {
		if remains(n, s, rel, b) {
			numbers = append(numbers, n)
		}
	}
	if len(numbers) == 0 {
		return s, false
	}
	return span(numbers[0], numbers[len(numbers)-1]), true
}

// turned and swapped say what the chapter says of relations.
var (
	turned  = map[int]int{1: 4, 4: 1, 2: 3, 3: 2, 5: 6, 6: 5}
	swapped = map[int]int{1: 3, 3: 1, 2: 4, 4: 2, 5: 5, 6: 6}
)

// wantedRefined is the specification of refining; it returns nil for a list that cannot be reached.
func wantedRefined(vars []api.Span, s api.Stmt, rel int, a, b api.Span) []api.Span {
	if !relatedSpans(a, rel, b) {
		return nil
	}
	vars = slices.Clone(vars)
	for _, x := range []struct {
		e   api.Expr
		rel int
		by  api.Span
	}{{s.A, rel, b}, {s.B, swapped[rel], a}} {
		if x.e.Op != api.ExVar {
			continue
		}
		left, ok := wantedCut(vars[x.e.N], x.rel, x.by)
		if !ok {
			return nil
		}
		vars[x.e.N] = left
	}
	return vars
}

// wantedStmts is the specification of examining statements: the intervals behind them, or a flaw.
func wantedStmts(p api.Program, vars []api.Span, stmts []api.Stmt) ([]api.Span, api.Errno) {
	in := [api.Inputs]api.Span{span(1, 1000), span(1, 10000000), span(1, 10000), span(0, 4000)}
	for _, s := range stmts {
		a, err := wantedSpan(vars, in, s.A)
		if err != api.OK {
			return nil, err
		}
		if s.Kind == api.StAssign {
			if a.Low < p.Vars[s.Var].Low || a.High > p.Vars[s.Var].High {
				return nil, api.ErrOver
			}
			vars = slices.Concat(vars[:s.Var], []api.Span{a}, vars[s.Var+1:])
			continue
		}
		b, err := wantedSpan(vars, in, s.B)
		if err != api.OK {
			return nil, err
		}
		var ends [][]api.Span
		for _, x := range []struct {
			rel   int
			stmts []api.Stmt
		}{{s.Rel, s.Then}, {turned[s.Rel], s.Else}} {
			refined := wantedRefined(vars, s, x.rel, a, b)
			if refined == nil {
				continue
			}
			end, err := wantedStmts(p, refined, x.stmts)
			if err != api.OK {
				return nil, err
			}
			ends = append(ends, end)
		}
		vars = slices.Clone(ends[0])
		for i, end := range ends[len(ends)-1] {
			vars[i] = span(min(vars[i].Low, end.Low), max(vars[i].High, end.High))
		}
	}
	return vars, api.OK
}

// wantedFlaws is the specification of Flaws for valid programs.
func wantedFlaws(p api.Program) []api.Flaw {
	var flaws []api.Flaw
	for event, stmts := range p.On {
		var vars []api.Span
		for _, v := range p.Vars {
			vars = append(vars, span(v.Low, v.High))
		}
		if _, err := wantedStmts(p, vars, stmts); err != api.OK {
			flaws = append(flaws, api.Flaw{Event: event, Err: err})
		}
	}
	return flaws
}

// P7.1: G1, all expressions of at most five nodes over few leaves.
func TestAllSmallExpressions(t *testing.T) {
	vars, in := []api.Span{span(-2, 3), span(2, most/2)}, [api.Inputs]api.Span{api.InRtt: span(-4, -1)}
	leaves := []api.Expr{plain(0), plain(3), variable(0), variable(1), variable(2), input(api.InRtt), plain(1000000001)}
	small := slices.Clone(leaves)
	for op := 0; op <= 11; op++ {
		for _, a := range leaves {
			small = append(small, node(op, a))
			for _, b := range leaves {
				small = append(small, node(op, a, b))
			}
		}
	}
	count := map[api.Errno]int{}
	check := func(e api.Expr) {
		got, err := ranges.Eval(vars, in, e)
		if want, wantErr := wantedEval(vars, in, e); got != want || err != wantErr {
			t.Fatalf("%s: %v, %v; want %v, %v", brief(e), got, err, want, wantErr)
		}
		count[err]++
	}
	for _, a := range small {
		check(a)
		for op := api.ExInput; op <= api.ExMax; op++ {
			for _, b := range leaves {
				check(node(op, a, b))
				check(node(op, b, a))
			}
		}
	}
	for _, err := range []api.Errno{api.OK, api.ErrArg, api.ErrRange, api.ErrZero} {
		if count[err] < 500 {
			t.Errorf("%v", count)
		}
	}
}

// P7.1: G1, right and changed expressions over intervals of all sizes.
func TestEvalAsSpecified(t *testing.T) {
	count := map[api.Errno]int{}
	for m := range makers(70, 60000) {
		vars, in := m.spans(m.Intn(13)), m.inputs()
		e := m.anyExpr(len(vars), m.Intn(8))
		for range m.Intn(3) {
			e = m.changedExpr(e)
		}
		got, err := ranges.Eval(vars, in, e)
		if want, wantErr := wantedEval(vars, in, e); got != want || err != wantErr {
			t.Fatalf("%v, %v, %s: %v, %v; want %v, %v", vars, in, brief(e), got, err, want, wantErr)
		}
		count[err]++
	}
	for _, err := range []api.Errno{api.OK, api.ErrArg, api.ErrLimit, api.ErrRange, api.ErrZero} {
		if count[err] < 1000 {
			t.Errorf("%v", count)
		}
	}
}

// P7.1: G2, all handlers of many programs.
func TestFlawsAsSpecified(t *testing.T) {
	count := map[api.Errno]int{}
	for m := range makers(71, 20000) {
		p := m.program()
		want := wantedFlaws(p)
		if got, err := ranges.Flaws(p); !slices.Equal(got, want) || err != api.OK {
			t.Fatalf("%s: %v, %v; want %v", brief(p), got, err, want)
		}
		for _, f := range want {
			count[f.Err]++
		}
		count[api.OK] += api.Events - len(want)
	}
	for _, err := range []api.Errno{api.OK, api.ErrOver, api.ErrRange, api.ErrZero} {
		if count[err] < 500 {
			t.Errorf("%v", count)
		}
	}
}
