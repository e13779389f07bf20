package refuse_test

import (
	"fmt"
	"slices"
	"testing"

	"queuelab/api"
	"queuelab/meaning"
)

// end is what a call leads to: a state, or an error.
type end struct {
	state []int
	err   api.Errno
}

// model has what the words of the chapter mean for a program and calls; what calls lead to is kept, by states.
type model struct {
	p     api.Program
	calls []api.Call
	ends  map[string][]end
	stuck map[string]bool
}

func modelOf(p api.Program, calls []api.Call) model {
	return model{p, calls, map[string][]end{}, map[string]bool{}}
}

func (w model) start() []int {
	state, _ := meaning.Start(w.p)
	return state
}

// after returns what the calls lead to from a state on.
func (w model) after(state []int) []end {
	key := fmt.Sprint(state)
	if ends, ok := w.ends[key]; ok {
		return ends
	}
	var ends []end
	for _, c := range w.calls {
		next, err := meaning.Run(w.p, state, c)
		ends = append(ends, end{next, err})
	}
	w.ends[key] = ends
	return ends
}

// reached returns the states that are reached from a state, the last one found first looked at; it gives up beyond 2000.
func (w model) reached(from []int) map[string][]int {
	states := map[string][]int{fmt.Sprint(from): from}
	for open := [][]int{from}; len(open) > 0 && len(states) <= 2000; {
		last := open[len(open)-1]
		open = open[:len(open)-1]
		for _, e := range w.after(last) {
			if e.err == api.OK && states[fmt.Sprint(e.state)] == nil {
				states[fmt.Sprint(e.state)] = e.state
				open = append(open, e.state)
			}
		}
	}
	return states
}

// isStuck looks at all states that are reached from this one.
func (w model) isStuck(state []int) bool {
	key := fmt.Sprint(state)
	if stuck, ok := w.stuck[key]; ok {
		return stuck
	}
	stuck := true
	for _, s := range w.reached(state) {
		stuck = stuck && s[w.p.Window] == 0
	}
	w.stuck[key] = stuck
	return stuck
}

// why returns why a run is bad that ends so, or OK.
func (w model) why(e end) api.Errno {
	if e.err == api.OK && w.isStuck(e.state) {
		return api.ErrState
	}
	return e.err
}

// literal is the specification of Find for valid arguments, word for word: all runs, by their lengths and then by their indices.
func (w model) literal(depth int) outcome {
	if len(w.reached(w.start())) > 2000 {
		return refused(api.ErrLimit)
	}
	type ended struct {
		run []int
		end
	}
	runs := []ended{{nil, end{state: w.start()}}}
	for length := 0; length <= depth; length++ {
		var longer []ended
		for _, r := range runs {
			if why := w.why(r.end); why != api.OK {
				return bad(why, r.run...)
			}
			for i, e := range w.after(r.state) {
				longer = append(longer, ended{append(slices.Clip(r.run), i), e})
			}
		}
		runs = longer
	}
	return none()
}

// remaining returns how many more calls the shortest bad run from each state on has; states from which there is none are missing.
func (w model) remaining() map[string]int {
	left := map[string]int{}
	for changed := true; changed; {
		changed = false
		for key, s := range w.reached(w.start()) {
			best, ok := left[key]
			better := func(n int) {
				if !ok || n < best {
					best, ok, changed = n, true, true
				}
			}
			if w.isStuck(s) {
				better(0)
			}
			for _, e := range w.after(s) {
				if n, isLeft := left[fmt.Sprint(e.state)]; e.err != api.OK {
					better(1)
				} else if isLeft {
					better(n + 1)
				}
			}
			if ok {
				left[key] = best
			}
		}
	}
	return left
}

// backward is another specification of Find, for valid arguments: at each state, the first call that comes nearer to the end is made.
func (w model) backward(depth int) outcome {
	if len(w.reached(w.start())) > 2000 {
		return refused(api.ErrLimit)
	}
	left := w.remaining()
	length, ok := left[fmt.Sprint(w.start())]
	if !ok || length > depth {
		return none()
	}
	at := end{state: w.start()}
	var run []int
	for len(run) < length {
		need := length - len(run) - 1
		i := slices.IndexFunc(w.after(at.state), func(e end) bool {
			n, isLeft := left[fmt.Sprint(e.state)]
			return e.err != api.OK && need == 0 || e.err == api.OK && isLeft && n == need
		})
		run, at = append(run, i), w.after(at.state)[i]
	}
	return bad(w.why(at), run...)
}

// tally counts what Find returns, and how long the runs are.
type tally struct {
	whys    map[api.Errno]int
	lengths map[int]int
}

func newTally() tally { return tally{map[api.Errno]int{}, map[int]int{}} }

func (c tally) add(o outcome) {
	if o.err != api.OK {
		c.whys[o.err]++
		return
	}
	c.whys[o.why]++
	if o.found {
		c.lengths[len(o.run)]++
	}
}

// expect checks that there were enough outcomes of each kind, and none without reason.
func (c tally) expect(t *testing.T, least int, whys ...api.Errno) {
	t.Helper()
	for _, why := range whys {
		if c.whys[why] < least {
			t.Errorf("%v, %v", c.whys, c.lengths)
		}
	}
	if c.whys[api.ErrArg] > 0 {
		t.Errorf("%v", c.whys)
	}
}

// P11.1, P11.3: all runs of few calls.
func TestAllShortRuns(t *testing.T) {
	count := newTally()
	for m := range makers(1, 1500) {
		source := m.source()
		calls := m.calls(1 + m.Intn(8))
		depth := m.Intn([]int{0, 20, 9, 7, 6, 5, 5, 4, 4}[len(calls)])
		p := programOf(t, source)
		got, want := found(p, calls, depth), modelOf(p, calls).literal(depth)
		if !got.equals(want) {
			t.Fatalf("%s: %v, %d: %v; want %v", source, calls, depth, got, want)
		}
		count.add(got)
	}
	count.expect(t, 15, api.OK, api.ErrState, api.ErrOver, api.ErrZero, api.ErrRange)
	if count.lengths[0] < 50 || count.lengths[1] < 100 || count.lengths[2] < 60 || count.lengths[3] < 12 {
		t.Errorf("%v", count.lengths)
	}
}

// P11.1, P11.3: runs of any length.
func TestLongRuns(t *testing.T) {
	count, long := newTally(), 0
	for m := range makers(2, 2000) {
		source := m.source()
		calls := m.calls(1 + m.Intn(4))
		p := programOf(t, source)
		got, want := found(p, calls, 2000), modelOf(p, calls).backward(2000)
		if !got.equals(want) {
			t.Fatalf("%s: %v: %v; want %v", source, calls, got, want)
		}
		count.add(got)
		if len(got.run) > 5 {
			long++
		}
	}
	count.expect(t, 25, api.OK, api.ErrState, api.ErrOver, api.ErrZero, api.ErrRange)
	if long < 60 {
		t.Errorf("%v", count.lengths)
	}
}
