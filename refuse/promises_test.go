package refuse_test

import (
	"slices"
	"testing"

	"queuelab/api"
	"queuelab/meaning"
	"queuelab/ranges"
)

// P11.2: the run is replayed, call by call; why it is bad is what happens at its end.
func TestRunsAreBad(t *testing.T) {
	count := newTally()
	for m := range makers(20, 2000) {
		source := m.source()
		p, calls, depth := programOf(t, source), m.calls(1+m.Intn(8)), m.Intn(2001)
		got := found(p, calls, depth)
		count.add(got)
		if got.err == api.ErrLimit || !got.found {
			continue
		}
		if len(got.run) > depth {
			t.Fatalf("%s: %v, %d: %v", source, calls, depth, got)
		}
		state, err := meaning.Start(p)
		for i, call := range got.run {
			if err != api.OK || call < 0 || call >= len(calls) {
				t.Fatalf("%s: %v: %v: %v before the call %d", source, calls, got, err, i)
			}
			state, err = meaning.Run(p, state, calls[call])
		}
		if err == api.OK && modelOf(p, calls).isStuck(state) {
			err = api.ErrState
		}
		if err == api.OK || err != got.why {
			t.Fatalf("%s: %v: %v, but %v", source, calls, got, err)
		}
	}
	count.expect(t, 30, api.OK, api.ErrState, api.ErrOver, api.ErrZero, api.ErrRange)
}

// P11.4: programs without flaws have no run that ends with an error, and none that is bad if the window is at least 1.
func TestWithoutFlaws(t *testing.T) {
	right, open := newTally(), 0
	for m := range makers(21, 4000) {
		source := m.source()
		p, calls := programOf(t, source), m.calls(1+m.Intn(8))
		flaws, err := ranges.Flaws(p)
		if err != api.OK {
			t.Fatalf("%s: %v", source, err)
		}
		if len(flaws) > 0 {
			continue
		}
		got := found(p, calls, 2000)
		right.add(got)
		if got.why != api.OK && got.why != api.ErrState {
			t.Fatalf("%s: %v: %v", source, calls, got)
		}
		if p.Vars[p.Window].Low >= 1 {
			open++
			if got.found {
				t.Fatalf("%s: %v: %v", source, calls, got)
			}
		}
	}
	right.expect(t, 60, api.OK, api.ErrState)
	if open < 60 {
		t.Errorf("only %d windows that are at least 1", open)
	}
}

// P11.5: with a greater depth the same run is found, with one that is less than its length none.
func TestDepth(t *testing.T) {
	count := newTally()
	for m := range makers(22, 400) {
		source := m.source()
		p, calls := programOf(t, source), m.calls(1+m.Intn(6))
		most := found(p, calls, 2000)
		count.add(most)
		for _, depth := range []int{0, 1, 2, 3, 4, 5, 6, len(most.run), len(most.run) + 1, m.Intn(2001), 1999} {
			want := most
			if depth < len(most.run) {
				want = none()
			}
			if got := found(p, calls, depth); !got.equals(want) {
				t.Fatalf("%s: %v, %d: %v; want %v", source, calls, depth, got, want)
			}
		}
	}
	count.expect(t, 5, api.OK, api.ErrState, api.ErrOver, api.ErrZero, api.ErrRange)
}

// P11.6: further calls at the end.
func TestMoreCalls(t *testing.T) {
	same, shorter := 0, 0
	for m := range makers(23, 1500) {
		source := m.source()
		p, calls := programOf(t, source), m.calls(1+m.Intn(7))
		first := found(p, calls, 2000)
		if !first.found || first.why == api.ErrState {
			continue
		}
		more := slices.Concat(calls, m.calls(1+m.Intn(8-len(calls))))
		got := found(p, more, 2000)
		switch {
		case got.err == api.ErrLimit:
		case !got.found || len(got.run) > len(first.run):
			t.Fatalf("%s: %v: %v; with fewer calls %v", source, more, got, first)
		case len(got.run) < len(first.run):
			shorter++
		case got.equals(first):
			same++
		}
	}
	if same < 150 || shorter < 15 {
		t.Errorf("%d, %d", same, shorter)
	}
}

// P11.6 is about runs that end with an error: a further call may open what was stuck, so that there is no bad run, or only a longer one.
func TestMoreCallsOpen(t *testing.T) {
	source := "program c { var w packets 0 4 2; on ack { w = w + 1 packets; } on loss { w = w / 2; } on timeout { w = 2 packets; } window w; }"
	expect(t, source, callsOf(loss), bad(api.ErrState, 0, 0))
	expect(t, source, callsOf(loss, timeout), none())
	expect(t, source, callsOf(loss, timeout, ack), bad(api.ErrOver, 2, 2, 2))
}

// P11.7: calls that occur twice, each after the first time it occurs.
func TestDoubledCalls(t *testing.T) {
	count := newTally()
	for m := range makers(24, 1500) {
		source := m.source()
		p, calls := programOf(t, source), m.calls(1+m.Intn(7))
		doubled := m.doubled(calls)
		want, got := found(p, calls, 2000), found(p, doubled, 2000)
		count.add(got)
		if len(got.run) != len(want.run) || got.why != want.why || got.found != want.found || got.err != want.err {
			t.Fatalf("%s: %v: %v; %v: %v", source, calls, want, doubled, got)
		}
		// It is the same run, of the calls that occur first.
		for i, call := range got.run {
			if doubled[call] != calls[want.run[i]] || call != slices.Index(doubled, doubled[call]) {
				t.Fatalf("%s: %v: %v; %v: %v", source, calls, want, doubled, got)
			}
		}
	}
	count.expect(t, 20, api.OK, api.ErrState, api.ErrOver, api.ErrZero, api.ErrRange)
}

// P11.7: all calls twice, in whichever order, do not change the length.
func TestDoubledInAnyOrder(t *testing.T) {
	moved := 0
	for m := range makers(25, 1500) {
		source := m.source()
		p, calls := programOf(t, source), m.calls(1+m.Intn(4))
		doubled := slices.Concat(calls, calls)
		m.Shuffle(len(doubled), func(i, k int) { doubled[i], doubled[k] = doubled[k], doubled[i] })
		want, got := found(p, calls, 2000), found(p, doubled, 2000)
		if len(got.run) != len(want.run) || got.found != want.found || got.err != want.err {
			t.Fatalf("%s: %v: %v; %v: %v", source, calls, want, doubled, got)
		}
		if !slices.Equal(got.run, want.run) {
			moved++
		}
	}
	if moved < 100 {
		t.Errorf("only %d other runs", moved)
	}
}
