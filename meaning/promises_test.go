package meaning_test

import (
	"fmt"
	"reflect"
	"slices"
	"testing"

	"queuelab/api"
	"queuelab/meaning"
	"queuelab/ranges"
)

// end is what Run returns.
type end struct {
	state []int
	err   api.Errno
}

func runOf(p api.Program, state []int, c api.Call) end {
	state, err := meaning.Run(p, state, c)
	return end{state, err}
}

func (e end) isSame(other end) bool { return slices.Equal(e.state, other.state) && e.err == other.err }

// with returns a program with another handler of an event.
func with(p api.Program, event int, stmts []api.Stmt) api.Program {
	p.On[event] = stmts
	return p
}

// expectEnds checks that there were enough runs with each end, and none that was refused: parts of right handlers are put together to right ones.
func expectEnds(t *testing.T, count map[api.Errno]int, least int, errs ...api.Errno) {
	t.Helper()
	few := func(err api.Errno) bool { return count[err] < least }
	if slices.ContainsFunc(errs, few) || count[api.ErrArg] > 0 {
		t.Errorf("%v", count)
	}
}

// P8.2.
func TestStartAndRunReturnStates(t *testing.T) {
	count := map[api.Errno]int{}
	for m := range makers(90, 1000) {
		source := m.source()
		p := programOf(t, source)
		state, err := meaning.Start(p)
		if err != api.OK {
			t.Fatalf("%s: %v", source, err)
		}
		for range 20 {
			if len(state) != len(p.Vars) {
				t.Fatalf("%s: %v", source, state)
			}
			for i, v := range p.Vars {
				if state[i] < v.Low || state[i] > v.High {
					t.Fatalf("%s: %v", source, state)
				}
			}
			// The run goes on from each state, so that Run must take for one what it returns.
			next := runOf(p, state, m.call())
			if next.err == api.ErrArg {
				t.Fatalf("%s: %v", source, state)
			}
			if next.err == api.OK {
				state = next.state
			}
			count[next.err]++
		}
	}
	expectEnds(t, count, 1000, api.OK, api.ErrOver)
}

// eval evaluates an operation on two numbers, which a state has.
func eval(op, a, b int) (int, api.Errno) {
	return meaning.Eval([]int{a, b}, [api.Inputs]int{}, node(op, variable(0), variable(1)))
}

// mustEval is eval without an error.
func mustEval(t *testing.T, op, a, b int) int {
	t.Helper()
	n, err := eval(op, a, b)
	if err != api.OK {
		t.Fatalf("%d: %d, %d: %v", op, a, b, err)
	}
	return n
}

// P8.3.
func TestQuotients(t *testing.T) {
	check := func(a, b int) {
		rest := a - mustEval(t, api.ExDiv, a, b)*b
		if rest < min(b+1, 0) || rest > max(b-1, 0) {
			t.Fatalf("%d / %d: the rest is %d", a, b, rest)
		}
		if up, down := mustEval(t, api.ExUp, a, b), mustEval(t, api.ExDiv, -a, b); up != -down {
			t.Fatalf("%d / %d: %d, and %d", a, b, up, down)
		}
	}
	for a := -30; a <= 30; a++ {
		for b := -12; b <= 12; b++ {
			if b != 0 {
				check(a, b)
			}
		}
	}
	for m := range makers(91, 50000) {
		if a, b := m.value(), m.value(); b != 0 {
			check(a, b)
		}
	}
}

// P8.4.
func TestLaws(t *testing.T) {
	count := map[api.Errno]int{}
	for m := range makers(92, 50000) {
		a, b := m.value(), m.value()
		for _, op := range []int{api.ExAdd, api.ExMul, api.ExMin, api.ExMax} {
			n, err := eval(op, a, b)
			if other, otherErr := eval(op, b, a); n != other || err != otherErr {
				t.Fatalf("%d: %d, %d: %d, %v, and %d, %v", op, a, b, n, err, other, otherErr)
			}
			count[err]++
		}
		least, greatest := mustEval(t, api.ExMin, a, b), mustEval(t, api.ExMax, a, b)
		if least > greatest || least+greatest != a+b {
			t.Fatalf("%d, %d: %d, %d", a, b, least, greatest)
		}
		sum, err := eval(api.ExAdd, a, b)
		if other, otherErr := eval(api.ExAdd, least, greatest); sum != other || err != otherErr {
			t.Fatalf("%d, %d: %d, %v, and %d, %v", a, b, sum, err, other, otherErr)
		}
		if difference, err := eval(api.ExSub, a, b); err == api.OK && mustEval(t, api.ExAdd, difference, b) != a {
			t.Fatalf("%d, %d: %d", a, b, difference)
		}
	}
	expectEnds(t, count, 10000, api.OK, api.ErrRange)
}

// P8.4: laws hold for whole expressions, too.
func TestLawsOfExpressions(t *testing.T) {
	count := map[api.Errno]int{}
	for m := range makers(93, 30000) {
		state, in := m.values(3), [api.Inputs]int(m.values(api.Inputs))
		a, b := m.anyExpr(3, m.Intn(4)), m.anyExpr(3, m.Intn(4))
		value := func(e api.Expr) (int, api.Errno) { return meaning.Eval(state, in, e) }
		_, errA := value(a)
		_, errB := value(b)
		if errA != api.OK && errB != api.OK && errA != errB {
			// The error is that of the first kid.
			continue
		}
		for _, op := range []int{api.ExAdd, api.ExMul, api.ExMin, api.ExMax} {
			n, err := value(node(op, a, b))
			if other, otherErr := value(node(op, b, a)); n != other || err != otherErr {
				t.Fatalf("%v, %v, %s, %s: %d, %v, and %d, %v", state, in, brief(a), brief(b), n, err, other, otherErr)
			}
			count[err]++
		}
	}
	expectEnds(t, count, 1000, api.OK, api.ErrRange, api.ErrZero)
}

// P8.5.
func TestParts(t *testing.T) {
	count := map[api.Errno]int{}
	for m := range makers(94, 1500) {
		source := m.source()
		p := programOf(t, source)
		for range 10 {
			first, second, c, state := m.Intn(api.Events), m.Intn(api.Events), m.call(), m.state()
			got := runOf(with(p, c.Event, slices.Concat(p.On[first], p.On[second])), state, c)
			want := runOf(with(p, c.Event, p.On[first]), state, c)
			if want.err == api.OK {
				want = runOf(with(p, c.Event, p.On[second]), want.state, c)
			}
			if !got.isSame(want) {
				t.Fatalf("%s: %d, %d, %v, %v: %v; want %v", source, first, second, state, c, got, want)
			}
			count[got.err]++
		}
	}
	expectEnds(t, count, 150, api.OK, api.ErrOver, api.ErrZero, api.ErrRange)
}

// opposites has for each relation the one in which two numbers are exactly if they are not in this one.
var opposites = [...]int{0, api.RelAtLeast, api.RelMore, api.RelAtMost, api.RelLess, api.RelOther, api.RelEqual}

// turned returns statements in which each if, with those in it, has the opposite relation and exchanged blocks.
func turned(stmts []api.Stmt) []api.Stmt {
	var others []api.Stmt
	for _, s := range stmts {
		if s.Kind == api.StIf {
			s.Rel, s.Then, s.Else = opposites[s.Rel], turned(s.Else), turned(s.Then)
		}
		others = append(others, s)
	}
	return others
}

// wantedChoice is what an if leads to, by what its parts do, and which of its lists this was.
func wantedChoice(p api.Program, state []int, c api.Call, s api.Stmt) (end, string) {
	a, err := meaning.Eval(state, c.In, s.A)
	if err != api.OK {
		return end{err: err}, "none"
	}
	b, err := meaning.Eval(state, c.In, s.B)
	if err != api.OK {
		return end{err: err}, "none"
	}
	if related(a, s.Rel, b) {
		return runOf(with(p, c.Event, s.Then), state, c), "then"
	}
	return runOf(with(p, c.Event, s.Else), state, c), "else"
}

// P8.6: an if has the effect of what it chooses.
func TestChoice(t *testing.T) {
	count := map[string]int{}
	for m := range makers(95, 3000) {
		source := m.source()
		p := programOf(t, source)
		for _, s := range slices.Concat(p.On[:]...) {
			if s.Kind != api.StIf {
				continue
			}
			c, state := m.call(), m.state()
			s.Then, s.Else = p.On[m.Intn(api.Events)], p.On[m.Intn(api.Events)]
			want, chosen := wantedChoice(p, state, c, s)
			stmts := []api.Stmt{s}
			for _, list := range [][]api.Stmt{stmts, turned(stmts)} {
				if got := runOf(with(p, c.Event, list), state, c); got.err == api.ErrArg || !got.isSame(want) {
					t.Fatalf("%s: %s, %v, %v: %v; want %v", source, brief(list), state, c, got, want)
				}
			}
			count[chosen]++
		}
	}
	if count["then"] < 2000 || count["else"] < 2000 || count["none"] < 50 {
		t.Errorf("%v", count)
	}
}

// P8.6: with opposite relations and exchanged blocks handlers are the same.
func TestTurned(t *testing.T) {
	count := map[api.Errno]int{}
	for m := range makers(96, 1500) {
		source := m.source()
		p := programOf(t, source)
		for range 10 {
			c, state := m.call(), m.state()
			got, want := runOf(with(p, c.Event, turned(p.On[c.Event])), state, c), runOf(p, state, c)
			if !got.isSame(want) {
				t.Fatalf("%s: %v, %v: %v; want %v", source, state, c, got, want)
			}
			count[got.err]++
		}
	}
	expectEnds(t, count, 150, api.OK, api.ErrOver, api.ErrZero, api.ErrRange)
}

// each calls a function for statements, with those in them, and for the parts of their expressions.
func each(stmts []api.Stmt, ofStmt func(api.Stmt), ofExpr func(api.Expr)) {
	var parts func(e api.Expr)
	parts = func(e api.Expr) {
		ofExpr(e)
		for _, kid := range e.Kids {
			parts(kid)
		}
	}
	for _, s := range stmts {
		ofStmt(s)
		parts(s.A)
		parts(s.B)
		each(s.Then, ofStmt, ofExpr)
		each(s.Else, ofStmt, ofExpr)
	}
}

// P8.7: variables to which nothing is assigned.
func TestRest(t *testing.T) {
	kept, changed := 0, 0
	for m := range makers(97, 1500) {
		source := m.source()
		p := programOf(t, source)
		for range 10 {
			c, state := m.call(), m.state()
			got := runOf(p, state, c)
			if got.err != api.OK {
				continue
			}
			assigned := map[int]bool{}
			each(p.On[c.Event], func(s api.Stmt) {
				if s.Kind == api.StAssign {
					assigned[s.Var] = true
				}
			}, func(api.Expr) {})
			for i, n := range got.state {
				switch {
				case assigned[i] && n != state[i]:
					changed++
				case !assigned[i] && n != state[i]:
					t.Fatalf("%s: %v, %v: %v", source, state, c, got)
				case !assigned[i]:
					kept++
				}
			}
		}
	}
	if kept < 5000 || changed < 2500 {
		t.Errorf("%d, %d", kept, changed)
	}
}

// P8.7: handlers of other events.
func TestOtherHandlers(t *testing.T) {
	count := map[api.Errno]int{}
	for m := range makers(98, 1000) {
		source, otherSource := m.source(), m.source()
		p, other := programOf(t, source), programOf(t, otherSource)
		for range 10 {
			c, state := m.call(), m.state()
			want := runOf(p, state, c)
			alone := with(p, c.Event, p.On[c.Event])
			alone.On = [api.Events][]api.Stmt{}
			alone.On[c.Event] = p.On[c.Event]
			moved := c
			moved.Event = m.Intn(api.Events)
			for _, got := range []end{runOf(alone, state, c), runOf(with(other, c.Event, p.On[c.Event]), state, c), runOf(with(other, moved.Event, p.On[c.Event]), state, moved)} {
				if !got.isSame(want) {
					t.Fatalf("%s, %s: %v, %v: %v; want %v", source, otherSource, state, c, got, want)
				}
			}
			count[want.err]++
		}
	}
	expectEnds(t, count, 100, api.OK, api.ErrOver, api.ErrZero, api.ErrRange)
}

// P8.8: the same call leads to the same state, whatever was run in between; inputs that do not occur do not matter.
func TestNoMemory(t *testing.T) {
	count, moved := map[api.Errno]int{}, 0
	for m := range makers(99, 1500) {
		source := m.source()
		p := programOf(t, source)
		for range 5 {
			c, state := m.call(), m.state()
			first := runOf(p, state, c)
			runOf(p, m.state(), m.call())
			occurs := [api.Inputs]bool{}
			each(p.On[c.Event], func(api.Stmt) {}, func(e api.Expr) {
				if e.Op == api.ExInput {
					occurs[e.N] = true
				}
			})
			other := api.Call{Event: c.Event, In: m.inputs()}
			for i := range other.In {
				if occurs[i] {
					other.In[i] = c.In[i]
				}
			}
			for _, again := range []end{runOf(p, state, c), runOf(p, state, other)} {
				if !again.isSame(first) {
					t.Fatalf("%s: %v, %v or %v: %v, then %v", source, state, c, other, first, again)
				}
			}
			count[first.err]++
			if other != c {
				moved++
			}
		}
	}
	expectEnds(t, count, 100, api.OK, api.ErrOver, api.ErrZero, api.ErrRange)
	if moved < 2500 {
		t.Errorf("only %d other calls", moved)
	}
}

// P1: arguments are not modified, and results share no memory with them.
func TestArguments(t *testing.T) {
	for m := range makers(100, 1000) {
		source := m.source()
		p, same := programOf(t, source), programOf(t, source)
		state, c := m.state(), m.call()
		kept := slices.Clone(state)
		got := runOf(p, state, c)
		if got.err == api.OK {
			got.state[0] = -1
		}
		first, _ := meaning.Start(p)
		first[0] = -1
		if !slices.Equal(state, kept) || !reflect.DeepEqual(p, same) {
			t.Fatalf("%s: %v, %v; the state was %v", source, brief(p), state, kept)
		}
		values, e := m.values(3), m.anyExpr(3, 3)
		keptValues, keptExpr := slices.Clone(values), fmt.Sprint(e)
		meaning.Eval(values, [api.Inputs]int{}, e)
		if !slices.Equal(values, keptValues) || fmt.Sprint(e) != keptExpr {
			t.Fatalf("%v, %s; it was %v, %s", values, brief(e), keptValues, keptExpr)
		}
	}
}

// T3: handlers without a flaw never fail by their meaning; those with one often do.
func TestWithoutFlaws(t *testing.T) {
	right, wrong := 0, map[api.Errno]int{}
	for m := range makers(101, 1500) {
		source := m.source()
		p := programOf(t, source)
		flaws, err := ranges.Flaws(p)
		if err != api.OK {
			t.Fatalf("%s: %v", source, err)
		}
		for range 10 {
			c, state := m.call(), m.state()
			got := runOf(p, state, c)
			hasFlaw := slices.ContainsFunc(flaws, func(f api.Flaw) bool { return f.Event == c.Event })
			if hasFlaw {
				wrong[got.err]++
				continue
			}
			if got.err != api.OK {
				t.Fatalf("%s: %v, %v: %v", source, state, c, got)
			}
			right++
		}
	}
	expectEnds(t, wrong, 100, api.OK, api.ErrOver, api.ErrZero, api.ErrRange)
	if right < 2500 {
		t.Errorf("only %d right runs", right)
	}
}
