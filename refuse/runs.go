package refuse

import "queuelab/api"

// firstBad returns the first bad run, and why it is bad; or OK, if there is none.
func firstBad(places []place, window int) (run []int, why api.Errno) {
	awake := awakePlaces(places, window)
	if !awake[0] {
		return nil, api.ErrState
	}
	var back func(at int) []int
	back = func(at int) []int {
		if at == 0 {
			return nil
		}
		return append(back(places[at].before), places[at].call)
	}
	// The places are in the order of the first runs to them, so that the first step that ends a bad run ends the first one.
search:
	for at, p := range places {
		for call, s := range p.steps {
			why = s.err
			if why == api.OK && !awake[s.to] {
				why = api.ErrState
			}
			if why != api.OK {
				run = append(back(at), call)
				break search
			}
		}
	}
	return run, why
}

// awakePlaces reports of each place whether its window, or one that is reached from it, is not 0: all others are stuck.
func awakePlaces(places []place, window int) []bool {
	awake := make([]bool, len(places))
	var list []int
	wake := func(at int) {
		if !awake[at] {
			awake[at] = true
			list = append(list, at)
		}
	}
	sources := make([][]int, len(places))
	for at, p := range places {
		if p.state[window] != 0 {
			wake(at)
		}
		for _, s := range p.steps {
			if s.err == api.OK {
				sources[s.to] = append(sources[s.to], at)
			}
		}
	}
	for i := 0; i < len(list); i++ {
		for _, at := range sources[list[i]] {
			wake(at)
		}
	}
	return awake
}
