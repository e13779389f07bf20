package prices

import (
	"iter"
	"slices"

	"queuelab/api"
)

// proposal is a valid network with rates and prices for it.
type proposal struct {
	net    api.Multi
	rates  [][]int
	prices []int
}

// path is one of a flow, with its rate.
type path struct {
	flow, rate int
	links      []int
}

// paths yields those of all flows.
func (p proposal) paths() iter.Seq[path] {
	return func(yield func(path) bool) {
		for flow, paths := range p.net.Flows {
			for i, links := range paths {
				if !yield(path{flow, p.rates[flow][i], links}) {
					return
				}
			}
		}
	}
}

func (p proposal) isSound() bool {
	for link, most := range p.net.Caps {
		if p.load(link) > api.Million*most {
			return false
		}
	}
	for x := range p.paths() {
		if rate := p.flowRate(x.flow); rate < 1 || p.price(x) < leastPrice(rate) {
			return false
		}
	}
	return true
}

// leastPrice returns the least price of the paths of a flow with a positive rate: prices are not multiplied by the rate, since the product may not fit into an int.
func leastPrice(rate int) int { return (api.Million*api.Million + rate - 1) / rate }

func (p proposal) load(link int) int {
	return p.total(func(x path) bool { return slices.Contains(x.links, link) })
}

func (p proposal) flowRate(flow int) int {
	return p.total(func(x path) bool { return x.flow == flow })
}

// total returns the rate of all paths that count.
func (p proposal) total(counts func(path) bool) int {
	return sum(p.paths(), func(x path) int {
		if counts(x) {
			return x.rate
		}
		return 0
	})
}

func (p proposal) price(x path) int {
	return sum(slices.Values(x.links), func(link int) int { return p.prices[link] })
}

func (p proposal) cost() int {
	cost := 0
	for link, most := range p.net.Caps {
		cost += p.prices[link] * most
	}
	return cost
}

// sum adds the numbers of all elements.
func sum[T any](list iter.Seq[T], number func(T) int) int {
	total := 0
	for x := range list {
		total += number(x)
	}
	return total
}
