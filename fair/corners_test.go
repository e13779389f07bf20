package fair_test

import (
	"iter"
	"math/big"
	"math/bits"
	"slices"

	"queuelab/api"
)

// corner is an extreme one of the rates that the links carry: each rate is a number of Rates, divided by Part.
type corner struct {
	rates []int
	part  int
}

// corners yields all of them: some flows have nothing, and as many links as there are others are full. A sum of rates with factors is greatest at one of them.
func corners(n api.Net) iter.Seq[corner] {
	return func(yield func(corner) bool) {
		for flows := range 1 << len(n.Flows) {
			for links := range 1 << len(n.Caps) {
				if bits.OnesCount(uint(flows)) != bits.OnesCount(uint(links)) {
					continue
				}
				if c, exists := cornerOf(n, members(flows), members(links)); exists && !yield(c) {
					return
				}
			}
		}
	}
}

func members(set int) []int {
	var list []int
	for i := range bits.Len(uint(set)) {
		if set>>i&1 == 1 {
			list = append(list, i)
		}
	}
	return list
}

// cornerOf returns the corner at which only some flows have something, and these fill as many links; there may be none.
func cornerOf(n api.Net, flows, links []int) (corner, bool) {
	var rows [][]int
	for _, link := range links {
		var row []int
		for _, flow := range flows {
			row = append(row, times(n, flow, link))
		}
		rows = append(rows, append(row, n.Caps[link]))
	}
	part, exists := solve(rows)
	if !exists {
		return corner{}, false
	}
	c := corner{make([]int, len(n.Flows)), max(part, -part)}
	for i, flow := range flows {
		c.rates[flow] = rows[i][len(flows)] * part / c.part
	}
	return c, c.isCarried(n)
}

// times returns how often a flow uses a link.
func times(n api.Net, flow, link int) int {
	if slices.Contains(n.Flows[flow], link) {
		return 1
	}
	return 0
}

// solve brings equations into a form in which each one says what its unknown is, times the same number, which is returned. All divisions are exact (the method of Bareiss), so that nothing is rounded.
func solve(rows [][]int) (int, bool) {
	last := 1
	for i := range rows {
		at := slices.IndexFunc(rows[i:], func(row []int) bool { return row[i] != 0 })
		if at < 0 {
			return 0, false
		}
		rows[i], rows[i+at] = rows[i+at], rows[i]
		for k, row := range rows {
			factor := row[i]
			if k == i {
				continue
			}
			for j := range row {
				row[j] = (row[j]*rows[i][i] - factor*rows[i][j]) / last
			}
		}
		last = rows[i][i]
	}
	return last, true
}

func (c corner) isCarried(n api.Net) bool {
	for link, most := range n.Caps {
		load := 0
		for flow, rate := range c.rates {
			if rate < 0 {
				return false
			}
			load += rate * times(n, flow, link)
		}
		if load > most*c.part {
			return false
		}
	}
	return true
}

// against returns the sum of Y / X, where Y are these rates and X given ones in millionths.
func (c corner) against(rates [][]int) *big.Rat {
	sum := new(big.Rat)
	for flow, rate := range c.rates {
		sum.Add(sum, new(big.Rat).SetFrac(product(number(rate), million), product(number(rates[flow][0]), number(c.part))))
	}
	return sum
}

// greatest returns the greatest sum of Y / X for all rates Y that the links carry.
func greatest(n api.Net, rates [][]int) *big.Rat {
	best := new(big.Rat)
	for c := range corners(n) {
		if sum := c.against(rates); sum.Cmp(best) > 0 {
			best = sum
		}
	}
	return best
}
