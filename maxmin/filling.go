package maxmin

import (
	"iter"
	"slices"

	"queuelab/api"
	"queuelab/ratio"
)

// filling is a network while its max-min fair rates are found: those of the flows that are fixed.
//
// No operation on its ratios fails: a level is divided by the number of the flows that it would fix, and so were the rates in it; with 8 flows in all, the product of these numbers, and so each denominator, is at most 18.
type filling struct {
	net   api.Net
	rates []api.Ratio
	fixed []bool
}

// stop is what stops flows that are not fixed from having more than its level: a link, or the limit of a flow.
type stop interface {
	level() api.Ratio
	stopped() iter.Seq[int]
}

type linkStop struct {
	*filling
	link int
}

type limitStop struct {
	*filling
	flow int
}

// fill fixes all flows, in rounds with one stop each: others of the same level keep it, so that their turn comes later.
func (f *filling) fill() {
	for {
		first, found := least(f.stops(), compareLevels)
		if !found {
			return
		}
		level := first.level()
		for i := range first.stopped() {
			f.rates[i], f.fixed[i] = level, true
		}
	}
}

// stops yields what stops a flow that is not fixed.
func (f *filling) stops() iter.Seq[stop] {
	return func(yield func(stop) bool) {
		for i := range f.net.Caps {
			if s := (linkStop{f, i}); isAny(s.stopped()) && !yield(s) {
				return
			}
		}
		for i, limit := range f.net.Limits {
			if s := (limitStop{f, i}); limit > 0 && isAny(s.stopped()) && !yield(s) {
				return
			}
		}
	}
}

func (s linkStop) level() api.Ratio {
	room, open := whole(s.net.Caps[s.link]), 0
	for i := range through(s.net, s.link) {
		if s.fixed[i] {
			room, _ = ratio.Sub(room, s.rates[i])
		} else {
			open++
		}
	}
	level, _ := ratio.Div(room, whole(open))
	return level
}

func (s linkStop) stopped() iter.Seq[int] {
	return func(yield func(int) bool) {
		for i := range through(s.net, s.link) {
			if !s.fixed[i] && !yield(i) {
				return
			}
		}
	}
}

func (s limitStop) level() api.Ratio { return whole(s.net.Limits[s.flow]) }

func (s limitStop) stopped() iter.Seq[int] {
	return func(yield func(int) bool) {
		if !s.fixed[s.flow] {
			yield(s.flow)
		}
	}
}

func compareLevels(a, b stop) int {
	order, _ := ratio.Cmp(a.level(), b.level())
	return order
}

// through yields the flows with a link.
func through(n api.Net, link int) iter.Seq[int] {
	return func(yield func(int) bool) {
		for i, links := range n.Flows {
			if slices.Contains(links, link) && !yield(i) {
				return
			}
		}
	}
}

// least returns the first of the least elements, if there is one.
func least[T any](list iter.Seq[T], compare func(a, b T) int) (best T, found bool) {
	for x := range list {
		if !found || compare(x, best) < 0 {
			best, found = x, true
		}
	}
	return best, found
}

func isAny[T any](list iter.Seq[T]) bool {
	for range list {
		return true
	}
	return false
}

func whole(n int) api.Ratio { return api.Ratio{Num: n, Den: 1} }
