package fair

import (
	"slices"

	"queuelab/api"
	"queuelab/prices"
)

const (
	allShares   = 1000000000 // the share of a flow with the weight 1
	firstWeight = 1000
	lowWeight   = 50000
)

// round is a network that can be solved, with the weights of its links and the loads that follow from them; those of links that are not used are 0.
//
// All products fit into an int: a weight is at most 100000, a share 1000000000, a load 8 times as much, and a cap 1000.
type round struct {
	net     api.Net
	weights []int
	loads   []int
}

func newRound(n api.Net, weights []int) round {
	r := round{net: n, weights: weights, loads: make([]int, len(weights))}
	for link := range weights {
		r.loads[link] = r.load(link)
	}
	return r
}

func firstRound(n api.Net) round {
	weights := make([]int, len(n.Caps))
	for _, links := range n.Flows {
		for _, link := range links {
			weights[link] = firstWeight
		}
	}
	return newRound(n, weights)
}

// best returns the first one with the least gap, of the certificates of this round and so many further ones. This round has to have a certificate, as the first one of each network has.
func (r round) best(rounds int) api.Cert {
	best, _ := r.cert()
search:
	for range rounds {
		r = r.next()
		c, exists := r.cert()
		switch {
		case best.Gap == 0:
			// There is no lesser one.
			break search
		case exists && c.Gap < best.Gap:
			best = c
		}
	}
	return best
}

// cert returns the certificate of the weights, if there is one.
func (r round) cert() (api.Cert, bool) {
	worth := least(r.net.Flows, func(links []int) int { return r.weight(links) * r.rate(links) })
	if worth == 0 {
		return api.Cert{}, false
	}
	var c api.Cert
	for _, links := range r.net.Flows {
		c.Rates = append(c.Rates, []int{r.rate(links)})
	}
	for _, weight := range r.weights {
		c.Prices = append(c.Prices, (weight*api.Million*api.Million+worth-1)/worth)
	}
	// A price that is too great is an error of Gap, too.
	gap, err := prices.Gap(withPaths(r.net), c.Rates, c.Prices)
	if err != api.OK {
		return api.Cert{}, false
	}
	c.Gap = gap
	return c, true
}

// next returns the round with the next weights.
func (r round) next() round {
	fullest := r.fullest()
	weights := make([]int, len(r.weights))
	for link, weight := range r.weights {
		if weight > 0 {
			weights[link] = max(1, r.moved(link, fullest))
		}
	}
	if slices.Max(weights) < lowWeight {
		for link := range weights {
			weights[link] *= 2
		}
	}
	return newRound(r.net, weights)
}

// fullest returns the first used link whose load is greatest for its cap. The quotients are compared exactly: otherwise a link could be fuller than this one, and its weight could grow beyond 100000.
func (r round) fullest() int {
	best := -1
	for link, weight := range r.weights {
		if weight > 0 && (best < 0 || r.loads[link]*r.net.Caps[best] > r.loads[best]*r.net.Caps[link]) {
			best = link
		}
	}
	return best
}

// moved returns the mean of the weight of a link and of what this would be if it fell as far as the link is less full than the fullest one.
func (r round) moved(link, fullest int) int {
	own, most := r.loads[link]*r.net.Caps[fullest], r.net.Caps[link]*r.loads[fullest]
	return r.weights[link] * (own + most) / (2 * most)
}

func (r round) linkWeight(link int) int { return r.weights[link] }

// weight returns that of a flow.
func (r round) weight(links []int) int { return sum(links, r.linkWeight) }

func (r round) share(links []int) int { return allShares / r.weight(links) }

func (r round) load(link int) int {
	return sum(r.net.Flows, func(links []int) int {
		if slices.Contains(links, link) {
			return r.share(links)
		}
		return 0
	})
}

func (r round) rate(links []int) int {
	share := r.share(links)
	return least(links, func(link int) int { return share * r.net.Caps[link] * api.Million / r.loads[link] })
}
