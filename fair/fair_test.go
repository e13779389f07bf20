package fair_test

import (
	"math"
	"reflect"
	"slices"
	"testing"

	"queuelab/api"
	"queuelab/fair"
)

// net returns a network without limits.
func net(caps []int, flows ...[]int) api.Net {
	return api.Net{Caps: caps, Flows: flows, Limits: make([]int, len(flows))}
}

// single returns a network of so many flows that use one link alone.
func single(capacity, flows int) api.Net {
	return net([]int{capacity}, slices.Repeat([][]int{{0}}, flows)...)
}

// each returns the rates of flows with one path each.
func each(rates ...int) [][]int {
	var lists [][]int
	for _, rate := range rates {
		lists = append(lists, []int{rate})
	}
	return lists
}

// copied returns a network that shares no memory with this one.
func copied(n api.Net) api.Net {
	c := api.Net{Caps: slices.Clone(n.Caps), Limits: slices.Clone(n.Limits)}
	for _, links := range n.Flows {
		c.Flows = append(c.Flows, slices.Clone(links))
	}
	return c
}

// expectation is a network with the certificate after some rounds.
type expectation struct {
	net    api.Net
	rounds int
	rates  []int
	prices []int
	gap    int
}

func expectCerts(t *testing.T, list []expectation) {
	t.Helper()
	for _, e := range list {
		want := api.Cert{Rates: each(e.rates...), Prices: e.prices, Gap: e.gap}
		if c, err := fair.Solve(e.net, e.rounds); err != api.OK || !reflect.DeepEqual(c, want) {
			t.Errorf("Solve %v, %d rounds: %v, %v; want %v", e.net, e.rounds, c, err, want)
		}
	}
}

// P15.1: the section Examples.
func TestExamples(t *testing.T) {
	for _, rounds := range []int{0, 1, 2, 999, 1000} {
		expectCerts(t, []expectation{{single(10, 2), rounds, []int{5000000, 5000000}, []int{200000}, 0}})
	}
}

// P15.1: O1, the weights of the round 0: shares, rates and prices with what is rounded.
func TestFirstRound(t *testing.T) {
	expectCerts(t, []expectation{
		{single(1, 1), 0, []int{1000000}, []int{1000000}, 0},
		{single(1000, 1), 0, []int{1000000000}, []int{1000}, 0},
		{single(1, 3), 0, []int{333333, 333333, 333333}, []int{3000004}, 4},
		{single(7, 3), 0, []int{2333333, 2333333, 2333333}, []int{428572}, 4},
		// The share of a flow with three links is 1000000000 / 3000, rounded down.
		{net([]int{2, 3, 5}, []int{0, 1, 2}), 0, []int{2000000}, []int{166667, 166667, 166667}, 666670},
		// The loads are 1333333 and 333333.
		{net([]int{1, 1, 1}, []int{0}, []int{0, 1, 2}), 0, []int{750000, 249999}, []int{1333339, 1333339, 1333339}, 2000017},
		// The loads are 1500000 and 500000: the second flow has no more than on the fullest of its links.
		{net([]int{3, 1}, []int{0}, []int{0, 1}), 0, []int{2000000, 1000000}, []int{500000, 500000}, 0},
		{net([]int{3, 2}, []int{0}, []int{0, 1}), 0, []int{2000000, 1000000}, []int{500000, 500000}, 500000},
		{net([]int{30, 1}, []int{0}, []int{0, 1}), 0, []int{20000000, 1000000}, []int{500000, 500000}, 13500000},
		// Links that are not used, also with the cap 0, have no price.
		{net([]int{0, 4, 0, 7, 1000}, []int{1}, []int{3}), 0, []int{4000000, 7000000}, []int{0, 250000, 0, 250000, 0}, 750000},
	})
}

// P15.1: O1, further rounds, computed by hand.
func TestNextRounds(t *testing.T) {
	apart, line := net([]int{1, 2}, []int{0}, []int{1}), net([]int{1, 1}, []int{0, 1})
	chain := net([]int{1, 2}, []int{0}, []int{0, 1})
	expectCerts(t, []expectation{
		// The loads for the caps are 1000000 and 500000, so that the weights become 2000 and 2 * 750; then 500000 and 333333: 4000 and 2 * 1249.
		{apart, 0, []int{1000000, 2000000}, []int{1000000, 1000000}, 1000000},
		{apart, 1, []int{1000000, 2000000}, []int{1000000, 750000}, 500000},
		{apart, 2, []int{1000000, 2000000}, []int{1000000, 624500}, 249000},
		// The first one of the certificates stays, as long as no gap is less.
		{line, 0, []int{1000000}, []int{500000, 500000}, 0},
		{line, 1, []int{1000000}, []int{500000, 500000}, 0},
		{line, 1000, []int{1000000}, []int{500000, 500000}, 0},
		// The loads are 1500000 and 500000; the weights become 2000 and 2 * 583, the shares 500000 and 315855.
		{chain, 0, []int{666666, 333333}, []int{1500002, 1500002}, 2500006},
		{chain, 1, []int{612853, 387146}, []int{1631716, 951290}, 1534296},
	})
}

// P15.1: the next weights are doubled if all are less than 50000, and are at least 1 before that.
func TestDoubling(t *testing.T) {
	for _, e := range []struct {
		net           api.Net
		weights, next []int
	}{
		{single(7, 3), []int{1}, []int{2}},
		{single(7, 3), []int{49999}, []int{99998}},
		{single(7, 3), []int{50000}, []int{50000}},
		{single(7, 3), []int{50001}, []int{50001}},
		{single(7, 3), []int{100000}, []int{100000}},
		{net([]int{1, 1}, []int{0, 1}), []int{49999, 49999}, []int{99998, 99998}},
		{net([]int{1, 1}, []int{0, 1}), []int{49999, 50000}, []int{49999, 50000}},
		{net([]int{1, 1}, []int{0, 1}), []int{50000, 1}, []int{50000, 1}},
		{net([]int{1, 1, 1}, []int{1}), []int{0, 49999, 0}, []int{0, 99998, 0}},
		// The loads are 10000 and 1000000000, so that the first weight falls to 50000 and a half, and the second one stays.
		{net([]int{1, 1}, []int{0}, []int{1}), []int{100000, 1}, []int{50000, 1}},
		// The loads are 20000 and 1000000000: the first weight falls to 25000 and a half.
		{net([]int{1, 1}, []int{0}, []int{1}), []int{50000, 1}, []int{50000, 2}},
		// The second weight would fall to 0.
		{net([]int{1, 1000}, []int{0}, []int{1}), []int{1, 1}, []int{2, 2}},
	} {
		if next := fair.NextOf(e.net, e.weights); !slices.Equal(next, e.next) {
			t.Errorf("%v with the weights %v: %v follow; want %v", e.net, e.weights, next, e.next)
		}
		compareWeights(t, e.net, e.weights)
	}
}

// P15.1: weights without a certificate: a rate is 0, or a price or the gap too great; and others that just have one.
func TestFarApartWeights(t *testing.T) {
	crowd := func(caps []int, last ...[]int) api.Net {
		return net(caps, append(slices.Repeat([][]int{{0}}, 8-len(last)), last...)...)
	}
	all, weights := []int{0, 1, 2, 3, 4, 5}, []int{1, 100000, 100000, 100000, 100000, 100000}
	for _, e := range []struct {
		net     api.Net
		weights []int
		exists  bool
	}{
		// The share of the last flow is 1999, the load of the first link 7000001999.
		{crowd([]int{1, 1, 1, 1, 1, 1}, all), weights, false},
		{crowd([]int{3, 1000, 1000, 1000, 1000, 1000}, all), weights, false},
		// The rate of the last flow is 1, each price but the first one 199999600001.
		{crowd([]int{4, 1, 1, 1, 1, 1}, all), weights, true},
		{crowd([]int{4, 1, 1, 2, 1, 1}, all), weights, false},
		// The weight of the last flow but one is 99999, its rate 1, so that the price of the last link is 1000010000101.
		{crowd([]int{1, 1, 1}, []int{0, 1}, []int{2}), []int{1, 99998, 100000}, false},
		// Without this link the gap is 999992000001.
		{crowd([]int{1, 1}, []int{0, 1}), []int{1, 99998}, true},
	} {
		if _, exists := fair.CertOf(e.net, e.weights); exists != e.exists {
			t.Errorf("%v with the weights %v: %v; want %v", e.net, e.weights, exists, e.exists)
		}
		compareWeights(t, e.net, e.weights)
	}
}

// expectErr expects an error and nothing beside it.
func expectErr(t *testing.T, n api.Net, rounds int, want api.Errno) {
	t.Helper()
	c, err := fair.Solve(n, rounds)
	if err != want || len(c.Rates) != 0 || len(c.Prices) != 0 || c.Gap != 0 {
		t.Errorf("Solve %v, %d rounds: %v, %v; want %v", n, rounds, c, err, want)
	}
}

// wrongNets returns networks that could be solved if one looked at less of them.
func wrongNets() []api.Net {
	list := []api.Net{
		{},
		net([]int{1}),
		net(nil, []int{0}),
		net(slices.Repeat([]int{1}, 9), []int{0}),
		net(slices.Repeat([]int{1}, 1000), []int{0}),
		single(1, 9),
		single(1, 1000),
		net([]int{1}, nil),
		net([]int{1}, []int{0}, nil),
		net([]int{1}, []int{}, []int{0}),
		net([]int{1, 1}, []int{1, 0}),
		net([]int{1, 1}, []int{0, 0}),
		net([]int{1, 1}, []int{0}, []int{1, 0}),
		net([]int{1, 1, 1}, []int{0, 2, 1}),
		net([]int{1, 1}, []int{2}),
		net([]int{1, 1}, []int{0, 2}),
		net([]int{1, 1}, []int{-1, 0}),
		net([]int{1, 1}, []int{0}, []int{-1}),
		net([]int{1, 1}, []int{0, math.MaxInt}),
		net([]int{1, 1}, []int{math.MinInt, 0}),
		net(slices.Repeat([]int{1}, 8), []int{8}),
		net(slices.Repeat([]int{1}, 8), []int{0, 1, 2, 3, 4, 5, 6}),
		net(slices.Repeat([]int{1}, 8), make([]int, 1000)),
	}
	for _, limits := range [][]int{nil, {}, {0}, {0, 0, 0}, {1, 0}, {0, 1}, {-1, 0}, {0, -1}, {0, 1000}, {0, 1001}, {math.MinInt, 0}, {0, math.MaxInt}, {1, -1}} {
		n := single(1, 2)
		n.Limits = limits
		list = append(list, n)
	}
	for _, wrong := range []int{-1, 1001, math.MinInt, math.MaxInt} {
		for at := range 3 {
			n := net([]int{2, 2, 2}, []int{0}, []int{1})
			n.Caps[at] = wrong
			list = append(list, n)
		}
	}
	return list
}

// P15.1: O1, networks that cannot be solved here, with numbers of rounds at all edges.
func TestWrongNets(t *testing.T) {
	for _, n := range wrongNets() {
		for _, rounds := range []int{-1, 0, 1, 1000, 1001} {
			expectErr(t, n, rounds, api.ErrArg)
		}
	}
}

// P15.1: O1, numbers of rounds that are possible, and others.
func TestNumbersOfRounds(t *testing.T) {
	for _, rounds := range []int{-1, -1000, 1001, 2000, math.MinInt, math.MaxInt} {
		expectErr(t, single(10, 2), rounds, api.ErrArg)
	}
	for _, rounds := range []int{0, 1, 999, 1000} {
		if c, err := fair.Solve(single(10, 2), rounds); err != api.OK || c.Gap != 0 || len(c.Rates) != 2 {
			t.Errorf("%d rounds: %v, %v", rounds, c, err)
		}
	}
}

// P15.1: O1, links with the cap 0: an error if they are used, and only then.
func TestEmptyLinks(t *testing.T) {
	for _, n := range []api.Net{
		single(0, 1), single(0, 8),
		net([]int{0, 5}, []int{0, 1}), net([]int{5, 0}, []int{0, 1}), net([]int{5, 0, 5}, []int{0, 1, 2}),
		net([]int{5, 0}, []int{0}, []int{1}), net([]int{0, 5}, []int{1}, []int{1}, []int{0}), net([]int{0, 0}, []int{1}),
		net([]int{1, 1, 1, 1, 1, 1, 1, 0}, []int{0}, []int{2, 3, 4, 5, 6, 7}),
	} {
		for _, rounds := range []int{0, 1, 1000} {
			expectErr(t, n, rounds, api.ErrNone)
		}
	}
	for _, n := range []api.Net{net([]int{0, 5}, []int{1}), net([]int{5, 0}, []int{0}), net([]int{0, 5, 0, 5, 0, 0, 0, 0}, []int{1, 3}, []int{3})} {
		compare(t, n, 0, 1, 2, 3, 30)
	}
}

// P15.1: O1, arguments with several errors: the first one is returned.
func TestFirstError(t *testing.T) {
	for _, rounds := range []int{-1, 1001} {
		expectErr(t, single(0, 2), rounds, api.ErrArg)
	}
	limited := single(0, 2)
	limited.Limits[1] = 1
	expectErr(t, limited, 0, api.ErrArg)
	expectErr(t, net([]int{0, 1001}, []int{0}), 0, api.ErrArg)
	expectErr(t, net([]int{0, 1}, []int{0}, []int{1, 0}), 0, api.ErrArg)
	expectErr(t, net([]int{0, 1}, []int{0}, []int{2}), 0, api.ErrArg)
}

// The rules: arguments stay as they are, and results depend only on them.
func TestArgumentsStay(t *testing.T) {
	for m, n := range makers(1511, 500) {
		before, rounds := copied(n), m.Intn(50)
		first, _ := fair.Solve(n, rounds)
		again, _ := fair.Solve(copied(n), rounds)
		if !reflect.DeepEqual(n, before) || !reflect.DeepEqual(first, again) {
			t.Fatalf("%v, before %v: %v, then %v", n, before, first, again)
		}
		clear(first.Rates[0])
		clear(first.Prices)
		for _, links := range n.Flows {
			clear(links)
		}
		clear(n.Caps)
		if third, _ := fair.Solve(before, rounds); !reflect.DeepEqual(third, again) {
			t.Fatalf("%v: %v, then %v", before, again, third)
		}
	}
}
