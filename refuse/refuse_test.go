package refuse_test

import (
	"math"
	"reflect"
	"slices"
	"strconv"
	"testing"

	"queuelab/api"
	"queuelab/control"
	"queuelab/parser"
	"queuelab/refuse"
)

const ack, loss, mark, timeout, path = api.OnAck, api.OnLoss, api.OnMark, api.OnTimeout, api.OnPath

// programOf returns the only program of a source: another copy with each call.
func programOf(t *testing.T, source string) api.Program {
	t.Helper()
	n, diags := parser.Parse(source)
	programs, wrong := control.Build(n)
	if len(diags)+len(wrong) > 0 || len(programs) != 1 {
		t.Fatalf("not a program: %s", source)
	}
	return programs[0]
}

// callsOf returns calls of events with the least inputs.
func callsOf(events ...int) []api.Call {
	var calls []api.Call
	for _, event := range events {
		calls = append(calls, api.Call{Event: event, In: [api.Inputs]int{1, 1, 1, 0}})
	}
	return calls
}

// outcome is what Find returns.
type outcome struct {
	run   []int
	why   api.Errno
	found bool
	err   api.Errno
}

// bad is the outcome of a bad run.
func bad(why api.Errno, run ...int) outcome { return outcome{run, why, true, api.OK} }

// none is the outcome if there is no bad run.
func none() outcome { return outcome{} }

func refused(err api.Errno) outcome { return outcome{err: err} }

func (o outcome) equals(p outcome) bool {
	return slices.Equal(o.run, p.run) && o.why == p.why && o.found == p.found && o.err == p.err
}

func found(p api.Program, calls []api.Call, depth int) outcome {
	run, why, ok, err := refuse.Find(p, calls, depth)
	return outcome{run, why, ok, err}
}

// expect checks what Find returns, at every depth that matters.
func expect(t *testing.T, source string, calls []api.Call, want outcome) {
	t.Helper()
	p := programOf(t, source)
	length := len(want.run)
	for _, depth := range []int{0, length - 1, length, length + 1, 2000} {
		expected := want
		if depth < length {
			expected = none()
		}
		if depth < 0 || depth > 2000 {
			continue
		}
		if got := found(p, calls, depth); !got.equals(expected) {
			t.Errorf("%s: %v, %d: %v; want %v", source, calls, depth, got, expected)
		}
	}
}

// P11.1: the section Examples.
func TestExamples(t *testing.T) {
	p := "program c { var w packets 0 4 2; on ack { w = w + 1 packets; } on loss { w = w / 2; } on timeout { w = 0 packets; } window w; }"
	expect(t, p, callsOf(ack), bad(api.ErrOver, 0, 0, 0))
	expect(t, p, callsOf(loss), bad(api.ErrState, 0, 0))
	expect(t, p, callsOf(loss, ack), bad(api.ErrOver, 1, 1, 1))
	expect(t, p, callsOf(ack, timeout, loss), bad(api.ErrOver, 0, 0, 0))
}

// P11.1: a run is bad for each error of a handler, of whichever event.
func TestReasons(t *testing.T) {
	for stmts, why := range map[string]api.Errno{
		"w = 10 packets;": api.ErrOver, "n = n / 0;": api.ErrZero, "n = 1000000000 * 1000000000;": api.ErrRange, "w = 0 packets;": api.ErrState,
	} {
		for i, event := range []string{"ack", "loss", "mark", "timeout", "path"} {
			begin := "program c { var w packets 0 9 5; var n none 0 9 1; on " + event
			at := begin + " { " + stmts + " } window w; }"
			expect(t, at, callsOf(i), bad(why, 0))
			expect(t, at, callsOf((i+1)%5, (i+2)%5, i), bad(why, 2))
			expect(t, at, callsOf((i+1)%5, (i+2)%5), none())
			later := begin + " { if n < 4 { n = n + 1; } else { " + stmts + " n = 4; } } window w; }"
			expect(t, later, callsOf((i+4)%5, i), bad(why, 1, 1, 1, 1))
		}
	}
}

// P11.1: the inputs are those of the calls.
func TestInputs(t *testing.T) {
	source := "program c { var w packets 0 900 5; on ack { w = w + acked * (1 + total / (4000 packets)) * (rtt / (1 time)) * (size / (1 bytes)); } window w; }"
	// From 5 on, 895 more are right, and 896 are not.
	for _, x := range []struct {
		in   [api.Inputs]int
		want outcome
	}{
		{[4]int{895, 1, 1, 0}, bad(api.ErrOver, 0, 1)}, {[4]int{896, 1, 1, 0}, bad(api.ErrOver, 1)},
		{[4]int{1, 895, 1, 0}, bad(api.ErrOver, 0, 1)}, {[4]int{1, 896, 1, 0}, bad(api.ErrOver, 1)},
		{[4]int{1, 1, 895, 0}, bad(api.ErrOver, 0, 1)}, {[4]int{1, 1, 896, 0}, bad(api.ErrOver, 1)},
		{[4]int{448, 1, 1, 3999}, bad(api.ErrOver, 1, 1)}, {[4]int{448, 1, 1, 4000}, bad(api.ErrOver, 1)},
	} {
		expect(t, source, []api.Call{{Event: ack, In: [4]int{400, 1, 1, 0}}, {Event: ack, In: x.in}}, x.want)
	}
}

// P11.1: of bad runs of one length, the one whose first different index is less comes first, whatever the reasons are.
func TestOrder(t *testing.T) {
	source := "program c { var w packets 0 9 1; on ack { w = w + 9 packets; } on loss { w = 0 packets; } on mark { w = w / (w / (2 packets)); } window w; }"
	for _, x := range []struct {
		why    api.Errno
		events []int
	}{{api.ErrOver, []int{ack, loss, mark}}, {api.ErrState, []int{loss, mark, timeout}}, {api.ErrZero, []int{mark, loss}}, {api.ErrZero, []int{mark, ack, loss}}} {
		expect(t, source, callsOf(x.events...), bad(x.why, 0))
		expect(t, source, callsOf(slices.Concat([]int{path}, x.events)...), bad(x.why, 1))
	}
	// The first call matters before the second one, also if another run was longer on the way.
	source = "program c { var w packets 0 9 5; on ack { w = w + 2 packets; } on loss { w = w - 3 packets; } on timeout { if w == 7 packets { w = 0 packets / 0; } } on mark { if w == 2 packets { w = 0 packets; } } window w; }"
	expect(t, source, callsOf(ack, loss), bad(api.ErrOver, 1, 1))
	expect(t, source, callsOf(ack, loss, timeout), bad(api.ErrZero, 0, 2))
	expect(t, source, callsOf(ack, timeout, loss), bad(api.ErrZero, 0, 1))
	expect(t, source, callsOf(loss, timeout, ack), bad(api.ErrOver, 0, 0))
	expect(t, source, callsOf(mark, loss, timeout, ack), bad(api.ErrOver, 1, 1))
	expect(t, source, callsOf(timeout, mark, ack), bad(api.ErrZero, 2, 0))
	// Two ways lead to the same state: the first one counts, also for what follows.
	source = "program c { var w packets 0 9 5; on ack { w = w + 1 packets; } on loss { w = w + 1 packets; } window w; }"
	expect(t, source, callsOf(mark, loss, ack), bad(api.ErrOver, 1, 1, 1, 1, 1))
}

const zero = "var w packets 0 9 0; var n none 0 9 0; "

// P11.1: a state is stuck if no window that is not 0 can be reached from it, whatever else happens there.
func TestStuck(t *testing.T) {
	// Nothing happens, the run goes on for ever, or it fails.
	for _, stmts := range []string{"", "n = n;", "n = 1 - n;", "if n < 9 { n = n + 1; } else { n = 0; }", "n = min(n + 1, 9);", "n = 1 / n;", "if n < 9 { n = n + 1; } else { w = 10 packets; }"} {
		source := "program c { " + zero + "on ack { " + stmts + " } on loss { w = 1 packets; } window w; }"
		expect(t, source, callsOf(ack), bad(api.ErrState))
		expect(t, source, callsOf(mark, ack, ack, path), bad(api.ErrState))
	}
	// A call helps, at once or later, although it does not last.
	for _, stmts := range []string{"w = 9 packets;", "if n < 9 { n = n + 1; } else { w = 1 packets; }", "n = 1 - n; w = n * 1 packets;"} {
		source := "program c { " + zero + "on ack { " + stmts + " } on loss { n = 0; } window w; }"
		expect(t, source, callsOf(ack), none())
		expect(t, source, callsOf(ack, loss), none())
		expect(t, source, callsOf(mark, loss, ack), none())
		expect(t, source, callsOf(mark, loss), bad(api.ErrState))
	}
	// The window is open once, and then closed for ever.
	expect(t, "program c { "+zero+"on ack { if n == 2 { w = 1 packets; } else { w = 0 packets; } n = min(n + 1, 9); } window w; }", callsOf(ack), bad(api.ErrState, 0, 0, 0, 0))
	// A window that is not 0 is not stuck, although all states that are reached from it are.
	expect(t, "program c { var w packets 0 9 3; on ack { w = 0 packets; } window w; }", callsOf(loss, ack), bad(api.ErrState, 1))
	expect(t, "program c { var w packets 0 9 3; on ack { w = 0 packets; } window w; }", callsOf(loss), none())
}

// P11.1: the window is the number of the variable Window.
func TestWindow(t *testing.T) {
	for window, want := range map[string]outcome{"u": bad(api.ErrState), "w": none(), "v": bad(api.ErrState, 0, 0)} {
		begin := "program c { var u packets 0 9 0; var b rate 0 9 0; var w packets 0 9 9; var v packets 0 9 2; on ack { v = max(v, 1 packets) - 1 packets; } window "
		expect(t, begin+window+"; }", callsOf(ack), want)
		expect(t, begin+window+"; pace b; }", callsOf(ack), want)
	}
}

// P11.1: states are the same only if all their numbers are.
func TestDifferentStates(t *testing.T) {
	for _, x := range [][]int{{1, 11, 11, 1}, {0, 10, 1, 0}, {12, 3, 1, 23}, {1, 2, 2, 1}, {1, 2, 1, 3}, {1, 2, 3, 2}, {19, 0, 1, 90}} {
		text := func(i int) string { return strconv.Itoa(x[i]) }
		// The first call leads from the first pair to the second one, and the next one fails.
		p := "program c { var one packets 1 1 1; var a packets 0 99 " + text(0) + "; var b packets 0 99 " + text(1) + "; on ack { if a == " + text(2) + " packets { if b == " + text(3) + " packets { a = 100 packets; } } a = " + text(2) + " packets; b = " + text(3) + " packets; } window one; }"
		expect(t, p, callsOf(ack), bad(api.ErrOver, 0, 0))
	}
}

// counter returns a program with two variables that count up to numbers by different events, and stay there; at the end it does something else.
func counter(first, second int, atEnd string) string {
	a, b := strconv.Itoa(first), strconv.Itoa(second)
	return "program c { var a none 0 " + a + " 0; var b none 0 " + b + " 0; var w packets 0 9 1; " +
		"on ack { if a < " + a + " { a = a + 1; } else { if b == " + b + " { " + atEnd + " } } } on loss { b = min(b + 1, " + b + "); } window w; }"
}

// P11.1: ErrLimit.
func TestLimit(t *testing.T) {
	for _, x := range []struct{ first, second int }{{1999, 0}, {2000, 0}, {0, 1999}, {0, 2000}, {999, 1}, {1000, 1}, {1, 999}, {1, 1000}, {39, 49}, {49, 39}, {40, 48}, {44, 43}, {44, 44}, {2500, 3}, {10000, 10000}} {
		p := programOf(t, counter(x.first, x.second, ""))
		want := none()
		if (x.first+1)*(x.second+1) > 2000 {
			want = refused(api.ErrLimit)
		}
		for depth, calls := range map[int][]api.Call{2000: callsOf(ack, loss), 1: callsOf(loss, ack), 0: callsOf(mark, loss, loss, ack, path, ack, timeout, loss)} {
			if got := found(p, calls, depth); !got.equals(want) {
				t.Errorf("%v, %d: %v; want %v", x, depth, got, want)
			}
		}
		// Each call alone reaches fewer states.
		for event, high := range []int{x.first, x.second} {
			want := none()
			if high >= 2000 {
				want = refused(api.ErrLimit)
			}
			if got := found(p, callsOf(event, mark), 2000); !got.equals(want) {
				t.Errorf("%v, %d: %v; want %v", x, event, got, want)
			}
		}
	}
}

// P11.1: too many states are an error also if there is a short bad run; but states behind an error are not reached.
func TestLimitAndBadRuns(t *testing.T) {
	for _, high := range []int{1999, 2000} {
		numbers := "var n none 0 " + strconv.Itoa(high) + " 0; "
		for _, x := range []struct {
			source string
			want   outcome
		}{
			{"program c { var w packets 0 9 0; " + numbers + "on ack { n = min(n + 1, " + strconv.Itoa(high) + "); } window w; }", bad(api.ErrState)},
			{"program c { var w packets 0 9 1; " + numbers + "on ack { n = min(n + 1, " + strconv.Itoa(high) + "); } on loss { w = 10 packets; } window w; }", bad(api.ErrOver, 0)},
			{"program c { var w packets 0 9 1; " + numbers + "on ack { n = n + 1; } on loss { if n == 0 { w = w / 0; } } window w; }", bad(api.ErrZero, 0)},
		} {
			want := x.want
			if high == 2000 {
				want = refused(api.ErrLimit)
			}
			for _, depth := range []int{1, 2000} {
				if got := found(programOf(t, x.source), callsOf(loss, ack), depth); !got.equals(want) {
					t.Errorf("%s, %d: %v; want %v", x.source, depth, got, want)
				}
			}
			if got := found(programOf(t, x.source), callsOf(loss, ack), 0); got.err != want.err || got.found != (len(want.run) == 0 && want.found) {
				t.Errorf("%s: %v", x.source, got)
			}
		}
	}
	// Each of the 2000 states fails by a call that first changes something.
	source := "program c { var w packets 1 9 1; var n none 0 1999 0; var k none 0 9 0; on ack { n = min(n + 1, 1999); } on loss { k = 1; n = 2000 - n; w = 10 packets; } window w; }"
	if got := found(programOf(t, source), callsOf(ack, loss), 2000); !got.equals(bad(api.ErrOver, 1)) {
		t.Errorf("%v", got)
	}
}

// P11.1: the longest runs that are possible.
func TestLongestRuns(t *testing.T) {
	for _, length := range []int{1998, 1999, 2000} {
		ones := slices.Repeat([]int{1}, length)
		expect(t, counter(length-1, 0, "w = 10 packets;"), callsOf(mark, ack), bad(api.ErrOver, ones...))
	}
	for _, length := range []int{1998, 1999} {
		ones := slices.Repeat([]int{1}, length)
		expect(t, counter(length-1, 0, "w = 0 packets;"), callsOf(mark, ack), bad(api.ErrState, ones...))
	}
	// Two counters one after the other, in both orders of the calls.
	expect(t, counter(30, 40, "w = w / 0;"), callsOf(ack, loss), bad(api.ErrZero, slices.Concat(slices.Repeat([]int{0}, 30), slices.Repeat([]int{1}, 40), []int{0})...))
	expect(t, counter(30, 40, "w = w / 0;"), callsOf(loss, ack), bad(api.ErrZero, slices.Concat(slices.Repeat([]int{0}, 40), slices.Repeat([]int{1}, 31))...))
}

// sources returns some for which ErrArg would not be the only thing to say: a bad run without calls, one with a call, none, and too many states.
func sources() []string {
	return []string{"program c { " + zero + "window w; }", "program c { var w packets 1 9 5; var n none 0 9 1; on ack { n = n / 0; } window w; }", "program c { var w packets 1 9 5; var n none 0 9 1; window w; }", counter(5000, 0, "")}
}

// expectArg checks that right arguments are refused after a change.
func expectArg(t *testing.T, name string, change func(p *api.Program, calls *[]api.Call, depth *int)) {
	t.Helper()
	for _, source := range sources() {
		p, calls, depth := programOf(t, source), callsOf(loss, ack), 5
		change(&p, &calls, &depth)
		if got := found(p, calls, depth); !got.equals(refused(api.ErrArg)) {
			t.Errorf("%s, %s: %v", name, source, got)
		}
	}
}

// P11.1: what is wrong below would otherwise lead to something else.
func TestRightArguments(t *testing.T) {
	for i, want := range []outcome{bad(api.ErrState), bad(api.ErrZero, 1), none(), refused(api.ErrLimit)} {
		if got := found(programOf(t, sources()[i]), callsOf(loss, ack), 5); !got.equals(want) {
			t.Errorf("%d: %v", i, got)
		}
	}
}

// P11.1: how many calls there are.
func TestNumberOfCalls(t *testing.T) {
	for count := range 20 {
		if count > 0 && count <= 8 {
			for _, source := range sources() {
				if got := found(programOf(t, source), callsOf(slices.Repeat([]int{ack}, count)...), 5); got.err == api.ErrArg {
					t.Errorf("%d: %v", count, got)
				}
			}
			continue
		}
		expectArg(t, strconv.Itoa(count), func(_ *api.Program, calls *[]api.Call, _ *int) {
			*calls = callsOf(slices.Repeat([]int{ack}, count)...)
		})
	}
}

// P11.1: calls and what is none, at each place, also if nothing uses it.
func TestCalls(t *testing.T) {
	ends := [][2]int{{1, 1000}, {1, 10000000}, {1, 10000}, {0, 4000}}
	for at := range 8 {
		with := func(change func(c *api.Call)) func(*api.Program, *[]api.Call, *int) {
			return func(_ *api.Program, calls *[]api.Call, _ *int) {
				*calls = callsOf(slices.Repeat([]int{mark}, 8)...)
				change(&(*calls)[at])
			}
		}
		for _, event := range []int{-1, 5, 6, math.MinInt, math.MaxInt} {
			expectArg(t, "event "+strconv.Itoa(event), with(func(c *api.Call) { c.Event = event }))
		}
		for i, end := range ends {
			for _, n := range []int{end[0] - 1, end[1] + 1, math.MinInt, math.MaxInt} {
				expectArg(t, "input "+strconv.Itoa(i), with(func(c *api.Call) { c.In[i] = n }))
			}
			for _, n := range end {
				calls := callsOf(slices.Repeat([]int{mark}, 8)...)
				calls[at].In[i] = n
				if got := found(programOf(t, sources()[2]), calls, 5); !got.equals(none()) {
					t.Errorf("%d, %d: %v", i, n, got)
				}
			}
		}
	}
	expectArg(t, "no inputs", func(_ *api.Program, calls *[]api.Call, _ *int) { *calls = []api.Call{{}} })
}

// P11.1: depths.
func TestDepths(t *testing.T) {
	for _, n := range []int{-1, -2, 2001, 2002, math.MinInt, math.MaxInt} {
		expectArg(t, strconv.Itoa(n), func(_ *api.Program, _ *[]api.Call, depth *int) { *depth = n })
	}
	for _, n := range []int{0, 1, 1999, 2000} {
		if got := found(programOf(t, sources()[2]), callsOf(ack), n); !got.equals(none()) {
			t.Errorf("%d: %v", n, got)
		}
	}
}

// P11.1: programs that are not valid.
func TestWrongPrograms(t *testing.T) {
	wrong := func(s api.Stmt) func(p *api.Program) {
		return func(p *api.Program) { p.On[path] = []api.Stmt{s} }
	}
	number := api.Expr{Op: api.ExNumber, N: 1}
	loop := []api.Stmt{{Kind: api.StIf, A: number, Rel: api.RelLess, B: number}}
	loop[0].Then, loop[0].Else = loop, loop
	for name, change := range map[string]func(p *api.Program){
		"no name":                   func(p *api.Program) { p.Name = "" },
		"a name twice":              func(p *api.Program) { p.Vars[1].Name = p.Vars[0].Name },
		"no variables":              func(p *api.Program) { p.Vars = nil },
		"Init below Low":            func(p *api.Program) { p.Vars[0].Init = -1 },
		"Init above High":           func(p *api.Program) { p.Vars[1].Init = p.Vars[1].High + 1 },
		"no window":                 func(p *api.Program) { p.Window = -1 },
		"a window of no variable":   func(p *api.Program) { p.Window = len(p.Vars) },
		"a pace of another unit":    func(p *api.Program) { p.Pace = p.Window },
		"a statement of no kind":    wrong(api.Stmt{}),
		"a unit that does not fit":  wrong(api.Stmt{Kind: api.StAssign, A: api.Expr{Op: api.ExInput, N: api.InRtt}}),
		"no variable":               wrong(api.Stmt{Kind: api.StAssign, Var: 4, A: number}),
		"statements that never end": func(p *api.Program) { p.On[path] = loop },
		"the zero program":          func(p *api.Program) { *p = api.Program{} },
	} {
		expectArg(t, name, func(p *api.Program, _ *[]api.Call, _ *int) { change(p) })
	}
}

// Rules: the arguments stay as they are, and a result is a list of its own.
func TestArgumentsStay(t *testing.T) {
	for m := range makers(3, 300) {
		source := m.source()
		p, calls := programOf(t, source), m.calls(1+m.Intn(4))
		given := slices.Clone(calls)
		first := found(p, calls, 2000)
		kept := first
		kept.run = slices.Clone(first.run)
		for i := range first.run {
			first.run[i] = -1
		}
		if again := found(p, calls, 2000); !again.equals(kept) {
			t.Fatalf("%s: %v, then %v", source, kept, again)
		}
		if !slices.Equal(calls, given) || !reflect.DeepEqual(p, programOf(t, source)) {
			t.Fatalf("%s: %v", source, calls)
		}
	}
}
