package prices_test

import (
	"math"
	"reflect"
	"slices"
	"testing"

	"queuelab/api"
	"queuelab/prices"
)

// proposal is a network with rates and prices.
type proposal struct {
	net    api.Multi
	rates  [][]int
	prices []int
}

func (p proposal) cert(gap int) api.Cert {
	return api.Cert{Rates: p.rates, Prices: p.prices, Gap: gap}
}

// copied returns a proposal that shares no memory with this one.
func (p proposal) copied() proposal {
	c := proposal{net: api.Multi{Caps: slices.Clone(p.net.Caps)}, rates: cloned(p.rates), prices: slices.Clone(p.prices)}
	for _, paths := range p.net.Flows {
		c.net.Flows = append(c.net.Flows, cloned(paths))
	}
	return c
}

func cloned(lists [][]int) [][]int {
	var result [][]int
	for _, list := range lists {
		result = append(result, slices.Clone(list))
	}
	return result
}

// network returns one whose flows have one path each.
func network(caps []int, paths ...[]int) api.Multi {
	n := api.Multi{Caps: caps}
	for _, path := range paths {
		n.Flows = append(n.Flows, [][]int{path})
	}
	return n
}

// each returns the rates of flows with one path each.
func each(rates ...int) [][]int {
	var lists [][]int
	for _, rate := range rates {
		lists = append(lists, []int{rate})
	}
	return lists
}

// single returns a proposal for one link, with a flow for each rate.
func single(capacity, price int, rates ...int) proposal {
	return proposal{network([]int{capacity}, slices.Repeat([][]int{{0}}, len(rates))...), each(rates...), []int{price}}
}

// expectation is a proposal with the results of Gap.
type expectation struct {
	proposal
	gap int
	err api.Errno
}

func expectGaps(t *testing.T, list []expectation) {
	t.Helper()
	for _, e := range list {
		if gap, err := prices.Gap(e.net, e.rates, e.prices); gap != e.gap || err != e.err {
			t.Errorf("Gap %v: %v, %v; want %v, %v", e.proposal, gap, err, e.gap, e.err)
		}
		for _, gap := range []int{0, 1, e.gap - 1, e.gap, e.gap + 1, api.MaxValue - 1, api.MaxValue, api.MaxValue + 1, -1, math.MinInt, math.MaxInt} {
			want := e.err == api.OK && gap >= e.gap && gap <= 1000000000000
			if prices.Check(e.net, e.cert(gap)) != want {
				t.Errorf("Check %v, gap %v: %v", e.proposal, gap, !want)
			}
		}
	}
}

// P14.1: the section Examples.
func TestExamples(t *testing.T) {
	expectGaps(t, []expectation{
		{single(2, 1000000, 1000000, 1000000), 0, api.OK},
		{single(2, 2000000, 1000000, 500000), 2000000, api.OK},
		{single(2, 1000000, 1000000, 1000001), 0, api.ErrProof},
		{single(2, 1000000, 1000000, 500000), 0, api.ErrProof},
		{single(10, 200000, 5000000, 5000000), 0, api.OK},
	})
}

// P14.1, P14.2: N2 and N3, one link: the load, the rates and the price at their edges.
func TestOneLink(t *testing.T) {
	expectGaps(t, []expectation{
		{single(1, 1000000, 1000000), 0, api.OK},
		{single(1, 1000001, 1000000), 1, api.OK},
		{single(1, 999999, 1000000), 0, api.ErrProof},
		{single(1, 1000000, 1000001), 0, api.ErrProof},
		{single(1, 1000000, 999999), 0, api.ErrProof},
		{single(1, 1000001, 999999), 0, api.ErrProof},
		{single(1, 1000002, 999999), 2, api.OK},
		{single(1000, 1000, 1000000000), 0, api.OK},
		{single(1000, 999, 1000000000), 0, api.ErrProof},
		{single(999, 1002, 1000000000), 0, api.ErrProof},
		{single(1, 1000000000000, 1), 999999000000, api.OK},
		{single(1, 999999999999, 1), 0, api.ErrProof},
		{single(1, 500000000000, 2), 499999000000, api.OK},
		{single(1, 499999999999, 2), 0, api.ErrProof},
		{single(1, 333333333334, 3), 333332333334, api.OK},
		{single(1, 333333333333, 3), 0, api.ErrProof},
		{single(1, 1000000000000, 0), 0, api.ErrProof},
		{single(1, 0, 0), 0, api.ErrProof},
		{single(1, 0, 1000000), 0, api.ErrProof},
		{single(0, 1000000000000, 0), 0, api.ErrProof},
		{single(0, 1000000000000, 1), 0, api.ErrProof},
		{single(3, 1000000, 1000000, 1000000, 1000000), 0, api.OK},
		{single(3, 1000000, 1000000, 1000000, 1000001), 0, api.ErrProof},
		{single(8, 1000000, 1000000, 1000000, 1000000, 1000000, 1000000, 1000000, 1000000, 1000000), 0, api.OK},
		{single(9, 1000000, 1000000, 1000000, 1000000, 1000000, 1000000, 1000000, 1000000, 1000000), 1000000, api.OK},
		{single(1000, 1000000000000, 1, 0), 0, api.ErrProof},
	})
}

// P14.1, P14.2: N2 and N3, several links, and flows with several paths, the rates of which may be 0.
func TestManyLinks(t *testing.T) {
	line := network([]int{1, 1}, []int{0, 1}, []int{0}, []int{1})
	split := api.Multi{Caps: []int{1, 2, 5}, Flows: [][][]int{{{0}, {1}}, {{1, 2}}}}
	twice := api.Multi{Caps: []int{3}, Flows: [][][]int{{{0}, {0}, {0}, {0}}}}
	long := network([]int{9, 4, 9, 4, 4, 4, 4, 4}, []int{1, 3, 4, 5, 6, 7})
	expectGaps(t, []expectation{
		{proposal{line, each(500000, 500000, 500000), []int{2000000, 2000000}}, 1000000, api.OK},
		{proposal{line, each(500000, 500000, 500001), []int{2000000, 2000000}}, 0, api.ErrProof},
		{proposal{line, each(500000, 500001, 500000), []int{2000000, 2000000}}, 0, api.ErrProof},
		{proposal{line, each(500000, 500000, 500000), []int{2000000, 1999999}}, 0, api.ErrProof},
		{proposal{line, each(500000, 500000, 500000), []int{1999999, 2000000}}, 0, api.ErrProof},
		{proposal{line, each(200000, 800000, 800000), []int{2500000, 2500000}}, 2000000, api.OK},
		{proposal{line, each(200000, 800000, 800000), []int{2500000, 2499999}}, 0, api.ErrProof},
		{proposal{line, each(200000, 800000, 800000), []int{3750000, 1250000}}, 2000000, api.OK},
		{proposal{split, [][]int{{1000000, 500000}, {1500000}}, []int{666667, 666667, 0}}, 1, api.OK},
		{proposal{split, [][]int{{1000000, 500000}, {1500000}}, []int{666667, 666667, 1}}, 6, api.OK},
		{proposal{split, [][]int{{1000000, 500000}, {1500000}}, []int{666667, 666666, 1}}, 0, api.ErrProof},
		{proposal{split, [][]int{{1000000, 0}, {2000000}}, []int{1000000, 1000000, 0}}, 1000000, api.OK},
		{proposal{split, [][]int{{1000000, 0}, {2000000}}, []int{1000000, 999999, 0}}, 0, api.ErrProof},
		{proposal{split, [][]int{{0, 1000000}, {1000000}}, []int{1000000, 1000000, 0}}, 1000000, api.OK},
		{proposal{split, [][]int{{0, 1000000}, {1000000}}, []int{999999, 1000000, 0}}, 0, api.ErrProof},
		{proposal{split, [][]int{{0, 0}, {1000000}}, []int{1000000, 1000000, 0}}, 0, api.ErrProof},
		{proposal{twice, [][]int{{1000000, 500000, 1500000, 0}}, []int{333334}}, 2, api.OK},
		{proposal{twice, [][]int{{1000000, 500000, 1500000, 0}}, []int{333333}}, 0, api.ErrProof},
		{proposal{twice, [][]int{{1000000, 500000, 1500000, 1}}, []int{333334}}, 0, api.ErrProof},
		{proposal{twice, [][]int{{0, 0, 0, 1}}, []int{333334}}, 0, api.ErrProof},
		{proposal{long, each(4000000), []int{0, 1, 0, 249990, 2, 3, 0, 4}}, 0, api.OK},
		{proposal{long, each(4000000), []int{0, 1, 0, 249990, 2, 3, 0, 3}}, 0, api.ErrProof},
		{proposal{long, each(4000000), []int{1, 1, 1, 249990, 2, 3, 0, 4}}, 18, api.OK},
		{proposal{long, each(4000001), []int{0, 1, 0, 249990, 2, 3, 0, 4}}, 0, api.ErrProof},
	})
}

// P14.1, P14.2: N2, gaps near the greatest one, and costs far beyond it.
func TestGreatGaps(t *testing.T) {
	spare := network([]int{2, 1}, []int{0})
	all := network(slices.Repeat([]int{1000}, 8), []int{0}, []int{2, 3, 4, 5, 6, 7})
	greatest := slices.Repeat([]int{1000000000000}, 8)
	expectGaps(t, []expectation{
		{single(2, 500000500000, 2), 1000000000000, api.OK},
		{single(2, 500000500001, 2), 0, api.ErrRange},
		{single(2, 500001000000, 2, 2), 1000000000000, api.OK},
		{single(2, 500001000001, 2, 2), 0, api.ErrRange},
		{proposal{spare, each(2), []int{500000499999, 2}}, 1000000000000, api.OK},
		{proposal{spare, each(2), []int{500000499999, 3}}, 0, api.ErrRange},
		{proposal{spare, each(2), []int{500000500000, 1}}, 0, api.ErrRange},
		{single(2, 1000000000000, 1), 0, api.ErrRange},
		{single(1000, 1000000000000, 1), 0, api.ErrRange},
		{proposal{all, each(1, 1), greatest}, 0, api.ErrRange},
		{proposal{all, each(1000000000, 1000000000), greatest}, 0, api.ErrRange},
		{proposal{all, each(1000000000, 0), greatest}, 0, api.ErrProof},
	})
}

// P14.1: N2, prices and rates whose products do not fit into 64 bits.
func TestGreatProducts(t *testing.T) {
	n := api.Multi{Caps: []int{1, 1000, 1000, 1000}, Flows: [][][]int{{{0}, {1}, {2}, {3}}}}
	var list []expectation
	for i := range 100 {
		price := 500000000000 + i*4999999999
		rates := [][]int{{1000000, 1000000000, 1000000000, 1000000000}}
		list = append(list, expectation{proposal{n, rates, []int{price, 334, 334, 334}}, price + 2000, api.OK})
		list = append(list, expectation{proposal{n, rates, []int{price, 334, 334, 333}}, 0, api.ErrProof})
	}
	full := api.Multi{Caps: slices.Repeat([]int{1000}, 8), Flows: [][][]int{{{0, 1}, {2, 3}, {4, 5}, {6, 7}}}}
	rates := [][]int{slices.Repeat([]int{1000000000}, 4)}
	list = append(list, expectation{proposal{full, rates, slices.Repeat([]int{1000000000000}, 8)}, 0, api.ErrRange})
	list = append(list, expectation{proposal{full, rates, slices.Repeat([]int{125}, 8)}, 0, api.OK})
	list = append(list, expectation{proposal{full, rates, slices.Repeat([]int{125, 124}, 4)}, 0, api.ErrProof})
	expectGaps(t, list)
}

// P14.1: N1, at the edges of all limits.
func TestValid(t *testing.T) {
	for _, n := range []api.Multi{
		network([]int{0}, []int{0}), network([]int{1000}, []int{0}), network([]int{0, 1000, 0, 7, 1, 2, 3, 1000}, []int{7}),
		network([]int{1}, slices.Repeat([][]int{{0}}, 8)...),
		network(make([]int, 8), []int{0, 1, 2, 3, 4, 5}), network(make([]int, 8), []int{2, 3, 4, 5, 6, 7}), network(make([]int, 8), []int{0, 2, 3, 5, 6, 7}),
		{Caps: []int{1}, Flows: [][][]int{{{0}, {0}, {0}, {0}}}},
		{Caps: []int{1, 2}, Flows: [][][]int{{{0}, {1}, {0, 1}, {1}}, {{1}, {0}}}},
		{Caps: make([]int, 8), Flows: slices.Repeat([][][]int{slices.Repeat([][]int{{1, 2, 4, 5, 6, 7}}, 4)}, 8)},
	} {
		if !prices.Valid(n) {
			t.Errorf("%v is valid", n)
		}
	}
}

// wrongNets returns proposals that would be sound if one looked at less of their networks.
func wrongNets() []proposal {
	right := single(2, 1000000, 1000000, 1000000)
	list := []proposal{
		{},
		{net: api.Multi{Caps: []int{1}}, prices: []int{0}},
		{net: api.Multi{Flows: [][][]int{{}}}, rates: [][]int{{}}},
		{api.Multi{Flows: [][][]int{{{0}}}}, each(1000000), nil},
		{network(slices.Repeat([]int{1}, 9), []int{0}), each(1000000), slices.Repeat([]int{1000000}, 9)},
		{network(slices.Repeat([]int{1}, 1000), []int{0}), each(1000000), slices.Repeat([]int{1000000}, 1000)},
		single(9, 1000000, slices.Repeat([]int{1000000}, 9)...),
		{api.Multi{Caps: []int{5}, Flows: [][][]int{{{0}, {0}, {0}, {0}, {0}}}}, [][]int{slices.Repeat([]int{1000000}, 5)}, []int{200000}},
		{api.Multi{Caps: []int{1}, Flows: [][][]int{{{0}}, {}}}, [][]int{{1000000}, {}}, []int{1000000}},
		{api.Multi{Caps: []int{1}, Flows: [][][]int{{}, {{0}}}}, [][]int{{}, {1000000}}, []int{1000000}},
		{network([]int{1}, []int{0}, nil), each(1000000, 1000000), []int{1000000}},
		{network([]int{1}, []int{}), each(0), []int{1000000}},
		{api.Multi{Caps: []int{1}, Flows: [][][]int{{{0}, nil}}}, [][]int{{1000000, 0}}, []int{1000000}},
		{network([]int{1, 1}, []int{1, 0}), each(1000000), []int{1000000, 1000000}},
		{network([]int{1, 1}, []int{0, 0}), each(1000000), []int{1000000, 1000000}},
		{network([]int{1, 1, 1}, []int{0, 2, 1}), each(1000000), []int{1000000, 1000000, 1000000}},
		{network([]int{1, 1, 1}, []int{1, 0, 2}), each(1000000), []int{1000000, 1000000, 1000000}},
		{network([]int{1, 1, 1}, []int{0, 1, 1}), each(1000000), []int{1000000, 1000000, 1000000}},
		{network([]int{1, 1}, []int{0, 2}), each(1000000), []int{1000000, 1000000}},
		{network([]int{1, 1}, []int{2}), each(1000000), []int{1000000, 1000000}},
		{network([]int{1, 1}, []int{-1, 0}), each(1000000), []int{1000000, 1000000}},
		{network([]int{1, 1}, []int{0, math.MaxInt}), each(1000000), []int{1000000, 1000000}},
		{network([]int{1, 1}, []int{math.MinInt, 0}), each(1000000), []int{1000000, 1000000}},
		{network(slices.Repeat([]int{1}, 8), []int{0, 1, 2, 3, 4, 5, 6}), each(1000000), slices.Repeat([]int{1000000}, 8)},
		{network(slices.Repeat([]int{1}, 8), []int{8}), each(1000000), slices.Repeat([]int{1000000}, 8)},
		{network(slices.Repeat([]int{1}, 8), make([]int, 1000)), each(1000000), slices.Repeat([]int{1000000}, 8)},
		{network([]int{1, 1}, []int{0}, []int{1, 0}), each(1000000, 1000000), []int{1000000, 1000000}},
		{api.Multi{Caps: []int{1, 1}, Flows: [][][]int{{{0}, {1, 0}}}}, [][]int{{1000000, 0}}, []int{1000000, 1000000}},
	}
	for _, wrong := range []int{-1, 1001, math.MinInt, math.MaxInt} {
		list = append(list, proposal{network([]int{wrong}, []int{0}), each(1000000), []int{1000000}})
		for at := range 3 {
			p := proposal{network([]int{2, 2, 2}, []int{0}, []int{0}), right.rates, []int{1000000, 0, 0}}
			p.net.Caps[at] = wrong
			list = append(list, p)
		}
	}
	return list
}

// expectNone expects that neither Gap nor Check accepts an argument.
func expectNone(t *testing.T, p proposal) {
	t.Helper()
	if gap, err := prices.Gap(p.net, p.rates, p.prices); gap != 0 || err != api.ErrArg {
		t.Errorf("Gap %v: %v, %v", p, gap, err)
	}
	for _, gap := range []int{-1, 0, 1, api.MaxValue} {
		if prices.Check(p.net, p.cert(gap)) {
			t.Errorf("Check %v, gap %v: accepted", p, gap)
		}
	}
}

// P14.1: N1 to N3, networks that are not valid.
func TestWrongNets(t *testing.T) {
	for _, p := range wrongNets() {
		if prices.Valid(p.net) {
			t.Errorf("%v is not valid", p.net)
		}
		expectNone(t, p)
	}
}

// P14.1: N2 and N3, rates and prices that are not for the network.
func TestNotForTheNetwork(t *testing.T) {
	right := proposal{api.Multi{Caps: []int{2, 2}, Flows: [][][]int{{{0}, {1}}, {{0, 1}}}}, [][]int{{1000000, 1000000}, {1000000}}, []int{500000, 500000}}
	expectGaps(t, []expectation{{right, 0, api.OK}})
	for _, rates := range [][][]int{nil, {}, right.rates[:1], {{1000000, 1000000}, {1000000}, {}}, {{1000000, 1000000}, {1000000}, {0}}, {{1000000}, {1000000}}, {{1000000, 1000000, 0}, {1000000}}, {{1000000, 1000000}, {1000000, 0}}, {{1000000, 1000000}, {}}, {{1000000, 1000000}, nil}, {nil, {1000000}}, {{1000000}, {1000000, 1000000}}} {
		expectNone(t, proposal{right.net, rates, right.prices})
	}
	for _, list := range [][]int{nil, {}, {500000}, {500000, 500000, 0}, {500000, 500000, 500000}} {
		expectNone(t, proposal{right.net, right.rates, list})
	}
	for flow, list := range right.rates {
		for i := range list {
			for _, wrong := range []int{-1, -1000000, 1000000001, math.MinInt, math.MaxInt} {
				p := right.copied()
				p.rates[flow][i] = wrong
				expectNone(t, p)
			}
		}
	}
	for link := range right.prices {
		for _, wrong := range []int{-1, -500000, 1000000000001, math.MinInt, math.MaxInt} {
			p := right.copied()
			p.prices[link] = wrong
			expectNone(t, p)
		}
	}
}

// P14.1: N2, an argument with several errors: the first one is returned.
func TestFirstError(t *testing.T) {
	expectGaps(t, []expectation{
		{single(1001, 0, 2000000000), 0, api.ErrArg},
		{single(2, 0, -1), 0, api.ErrArg},
		{single(2, -1, 0), 0, api.ErrArg},
		{single(2, 1000000000001, 0), 0, api.ErrArg},
		{single(2, 1000000000001, 1), 0, api.ErrArg},
		{single(2, 1000000000000, 1000000001), 0, api.ErrArg},
		{single(2, 1000000000000, 1000000000), 0, api.ErrProof},
		{single(2, 1000000000000, 0), 0, api.ErrProof},
		{single(2, 1000000000000, 2000001), 0, api.ErrProof},
		{single(2, 1000000000000, 2000000), 0, api.ErrRange},
		{proposal{network([]int{1000, 1}, []int{0}, []int{1}), each(1, 1), []int{1000000000000, 1}}, 0, api.ErrProof},
	})
}

// The rules: arguments stay as they are, and results depend only on them.
func TestMemory(t *testing.T) {
	p := proposal{api.Multi{Caps: []int{1, 2, 5}, Flows: [][][]int{{{0}, {1}}, {{1, 2}}}}, [][]int{{1000000, 500000}, {1500000}}, []int{666667, 666667, 0}}
	before := p.copied()
	for range 3 {
		expectGaps(t, []expectation{{p, 1, api.OK}})
	}
	if !prices.Valid(p.net) || !reflect.DeepEqual(p, before) {
		t.Errorf("%v; was %v", p, before)
	}
}
