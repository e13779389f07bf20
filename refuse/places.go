package refuse

import (
	"strconv"

	"queuelab/api"
	"queuelab/meaning"
)

// step is what a call leads to: a place, or an error.
type step struct {
	to  int
	err api.Errno
}

// place is a state that is reached. The first run to it is that to the place before it, and then the call by which it was found there.
type place struct {
	state  []int
	before int
	call   int
	steps  []step
}

// explore returns the places of all states that are reached, in the order of the first runs to them; or false, if there are too many.
func explore(p api.Program, start []int, calls []api.Call) ([]place, bool) {
	programs := shortened(p, calls)
	places := []place{{state: start}}
	known := map[string]int{text(start): 0}
	for at := 0; at < len(places); at++ {
		for call, c := range calls {
			state, err := meaning.Run(programs[call], places[at].state, c)
			if err != api.OK {
				places[at].steps = append(places[at].steps, step{err: err})
				continue
			}
			to, isKnown := known[text(state)]
			if !isKnown {
				if len(places) == api.MaxStates {
					return nil, false
				}
				to = len(places)
				known[text(state)] = to
				places = append(places, place{state: state, before: at, call: call})
			}
			places[at].steps = append(places[at].steps, step{to: to})
		}
	}
	return places, true
}

// shortened returns for each call the program with no handler but the one of this call: a run checks its program each time, and other handlers do not matter for it.
func shortened(p api.Program, calls []api.Call) []api.Program {
	var programs []api.Program
	for _, c := range calls {
		only := p
		only.On = [api.Events][]api.Stmt{}
		only.On[c.Event] = p.On[c.Event]
		programs = append(programs, only)
	}
	return programs
}

// text returns a text that only this state has.
func text(state []int) string {
	var digits []byte
	for _, n := range state {
		digits = append(strconv.AppendInt(digits, int64(n), 10), ' ')
	}
	return string(digits)
}
