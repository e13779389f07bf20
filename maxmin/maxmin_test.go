package maxmin_test

import (
	"math"
	"slices"
	"testing"

	"queuelab/api"
	"queuelab/maxmin"
)

func of(num, den int) api.Ratio { return api.Ratio{Num: num, Den: den} }

func wholes(numbers ...int) []api.Ratio {
	var list []api.Ratio
	for _, n := range numbers {
		list = append(list, of(n, 1))
	}
	return list
}

// network returns one with these flows, without limits.
func network(caps []int, flows ...[]int) api.Net {
	return api.Net{Caps: caps, Flows: flows, Limits: make([]int, len(flows))}
}

func limited(n api.Net, limits ...int) api.Net {
	n.Limits = limits
	return n
}

// single returns a network with one link and a flow for each limit.
func single(capacity int, limits ...int) api.Net {
	return api.Net{Caps: []int{capacity}, Flows: slices.Repeat([][]int{{0}}, len(limits)), Limits: limits}
}

// sharing is a network with its max-min fair rates.
type sharing struct {
	net  api.Net
	want []api.Ratio
}

func expectSharings(t *testing.T, list []sharing) {
	t.Helper()
	for _, s := range list {
		if got, err := maxmin.Share(s.net); !slices.Equal(got, s.want) || err != api.OK {
			t.Errorf("Share %v: %v, %v; want %v", s.net, got, err, s.want)
		}
		if !maxmin.Valid(s.net) || !maxmin.Check(s.net, s.want) {
			t.Errorf("%v with %v is refused", s.net, s.want)
		}
	}
}

// P13.1: the section Examples.
func TestExamples(t *testing.T) {
	expectSharings(t, []sharing{
		{network([]int{10, 4}, []int{0, 1}, []int{0}, []int{1}), wholes(2, 8, 2)},
		{single(10, 0, 0, 0), []api.Ratio{of(10, 3), of(10, 3), of(10, 3)}},
		{single(10, 1, 0, 0), []api.Ratio{of(1, 1), of(9, 2), of(9, 2)}},
		{network([]int{0, 5}, []int{0, 1}, []int{1}), wholes(0, 5)},
	})
}

// P13.1: M2, networks without flows, with caps of 0, and with limits that do or do not matter.
func TestShareOneLink(t *testing.T) {
	expectSharings(t, []sharing{
		{api.Net{}, nil},
		{api.Net{Caps: []int{5, 0, 1000}}, nil},
		{single(7, 0), wholes(7)},
		{single(0, 0), wholes(0)},
		{single(0, 0, 0), wholes(0, 0)},
		{single(0, 5, 0), wholes(0, 0)},
		{single(1000, 0), wholes(1000)},
		{single(1000, 7), wholes(7)},
		{single(1000, 1000), wholes(1000)},
		{single(7, 7), wholes(7)},
		{single(7, 8), wholes(7)},
		{single(6, 3, 0), wholes(3, 3)},
		{single(6, 3, 3), wholes(3, 3)},
		{single(6, 0, 2), wholes(4, 2)},
		{single(6, 4, 5), wholes(3, 3)},
		{single(6, 1, 2), wholes(1, 2)},
		{single(6, 2, 1), wholes(2, 1)},
		{single(6, 1, 2, 0), wholes(1, 2, 3)},
		{single(6, 1, 2, 2), wholes(1, 2, 2)},
		{single(5, 1, 3, 0), wholes(1, 2, 2)},
		{single(1, 0, 0, 0, 0, 0, 0, 0, 0), slices.Repeat([]api.Ratio{of(1, 8)}, 8)},
	})
}

// P13.1: M2, networks with several links and rounds, and with links and limits of the same level.
func TestShareManyLinks(t *testing.T) {
	expectSharings(t, []sharing{
		{network([]int{7, 3}, []int{1}), wholes(3)},
		{network([]int{9, 8, 7, 6, 5, 4, 3, 2}, []int{0, 1, 2, 3, 4, 5}, []int{2, 3, 4, 5, 6, 7}), wholes(2, 2)},
		{network([]int{0, 6, 9}, []int{0, 1, 2}, []int{1, 2}, []int{2}), []api.Ratio{of(0, 1), of(9, 2), of(9, 2)}},
		{network([]int{6, 4, 2}, []int{0, 1, 2}, []int{0}, []int{1}, []int{2}), wholes(1, 5, 3, 1)},
		{network([]int{4, 6}, []int{0, 1}, []int{0}, []int{1}, []int{1}), wholes(2, 2, 2, 2)},
		{network([]int{3, 4, 9}, []int{0}, []int{1}, []int{0, 1, 2}, []int{2}), []api.Ratio{of(3, 2), of(5, 2), of(3, 2), of(15, 2)}},
		{limited(network([]int{5, 3}, []int{0}, []int{0, 1}, []int{1}), 0, 1, 0), wholes(4, 1, 2)},
		{limited(network([]int{4, 6}, []int{0, 1}, []int{0}, []int{1}, []int{1}), 2, 0, 1, 0), wholes(2, 2, 1, 3)},
		{limited(network([]int{4, 4}, []int{0}, []int{0}, []int{1}), 2, 3, 2), wholes(2, 2, 2)},
	})
}

// P13.1: M1, at the edges of all limits.
func TestValid(t *testing.T) {
	for _, n := range []api.Net{
		{}, {Caps: []int{0}}, {Caps: []int{1000}}, {Caps: make([]int, 8)}, {Caps: []int{}, Flows: [][]int{}, Limits: []int{}},
		single(0, 0), single(1000, 1000), single(1, 0, 0, 0, 0, 0, 0, 0, 1000),
		network(make([]int, 8), []int{0, 1, 2, 3, 4, 5}), network(make([]int, 8), []int{2, 3, 4, 5, 6, 7}), network(make([]int, 8), []int{7}, []int{0, 7}),
	} {
		if !maxmin.Valid(n) {
			t.Errorf("%v is valid", n)
		}
	}
}

// wrongNets returns networks that are not valid, and rates that would be possible if one looked at less of them.
func wrongNets() []sharing {
	list := []sharing{
		{api.Net{Caps: make([]int, 9)}, nil},
		{api.Net{Caps: make([]int, 1000)}, nil},
		{single(1, 0, 0, 0, 0, 0, 0, 0, 0, 0), slices.Repeat([]api.Ratio{of(1, 9)}, 9)},
		{api.Net{Caps: []int{1}, Flows: [][]int{{0}}}, wholes(1)},
		{api.Net{Caps: []int{1}, Flows: [][]int{{0}}, Limits: []int{1, 0}}, wholes(1)},
		{api.Net{Caps: []int{1}, Limits: []int{0}}, nil},
		{api.Net{Caps: []int{1}, Limits: []int{0}}, wholes(0)},
		{api.Net{Flows: [][]int{{0}}, Limits: []int{0}}, wholes(0)},
		{api.Net{Flows: [][]int{{}}, Limits: []int{1}}, wholes(1)},
		{network([]int{1}, nil), wholes(0)},
		{limited(network([]int{1}, []int{0}, nil), 0, 1), wholes(1, 1)},
		{network([]int{1, 1}, []int{1, 0}), wholes(1)},
		{network([]int{1, 1}, []int{0, 0}), wholes(1)},
		{network([]int{1, 1}, []int{0, 1, 1}), wholes(1)},
		{network([]int{1, 1, 1}, []int{0, 2, 1}), wholes(1)},
		{network([]int{1}, []int{0}, []int{1}), wholes(1, 0)},
		{network([]int{1}, []int{0}, []int{-1}), wholes(1, 0)},
		{network([]int{1}, []int{0, 1}), wholes(1)},
		{network([]int{1}, []int{-1, 0}), wholes(1)},
		{network([]int{1, 1}, []int{0, math.MaxInt}), wholes(1)},
		{network([]int{1, 1}, []int{math.MinInt, 0}), wholes(1)},
		{network(make([]int, 8), []int{8}), wholes(0)},
		{network(make([]int, 8), []int{0, 1, 2, 3, 4, 5, 6}), wholes(0)},
		{network(make([]int, 8), make([]int, 1000)), wholes(0)},
	}
	for _, wrong := range []int{-1, 1001, math.MinInt, math.MaxInt} {
		list = append(list, sharing{api.Net{Caps: []int{wrong}}, nil}, sharing{network([]int{1, wrong}, []int{0}), wholes(1)}, sharing{single(5, wrong), wholes(5)}, sharing{single(2, 1, wrong), wholes(1, 1)})
	}
	return append(list, sharing{single(-1, 0), wholes(-1)}, sharing{single(1001, 0), wholes(1001)})
}

// P13.1: M1 to M3, networks that are not valid; with an error there are no rates.
func TestWrongNets(t *testing.T) {
	for _, s := range wrongNets() {
		if maxmin.Valid(s.net) {
			t.Errorf("%v is not valid", s.net)
		}
		if got, err := maxmin.Share(s.net); len(got) != 0 || err != api.ErrArg {
			t.Errorf("Share %v: %v, %v", s.net, got, err)
		}
		if maxmin.Check(s.net, s.want) || maxmin.Check(s.net, nil) {
			t.Errorf("Check %v: accepted", s.net)
		}
	}
}

// P13.1: M3, lists that are no rates of a network whose rates are 2, 8 and 2.
func TestNoRates(t *testing.T) {
	n := network([]int{10, 4}, []int{0, 1}, []int{0}, []int{1})
	right := wholes(2, 8, 2)
	lists := [][]api.Ratio{nil, {}, right[:2], wholes(2, 8, 2, 0), wholes(0, 2, 8, 2), wholes(-2, 12, 6)}
	for i := range right {
		for _, wrong := range []api.Ratio{{}, of(right[i].Num, 0), of(2*right[i].Num, 2), of(-right[i].Num, -1), of(-right[i].Num, 1), of(1000000001, 1), of(math.MaxInt, 1), of(math.MinInt, 1), of(1, math.MaxInt), of(1, math.MinInt)} {
			lists = append(lists, slices.Replace(slices.Clone(right), i, i+1, wrong))
		}
	}
	for _, x := range lists {
		if maxmin.Check(n, x) {
			t.Errorf("Check %v: accepted", x)
		}
	}
	if maxmin.Check(api.Net{}, wholes(0)) || maxmin.Check(api.Net{Caps: []int{1}}, wholes(1)) {
		t.Error("rates without flows are accepted")
	}
	if maxmin.Check(single(0, 0), []api.Ratio{of(0, 2)}) || maxmin.Check(single(0, 0), []api.Ratio{of(0, -1)}) {
		t.Error("0 that is not in lowest terms is accepted")
	}
}

// P13.1: M3, rates that are not possible, or with a flow that nothing stops.
func TestOtherRates(t *testing.T) {
	triangle := network([]int{10, 4}, []int{0, 1}, []int{0}, []int{1})
	for _, s := range []sharing{
		{triangle, wholes(2, 8, 3)}, {triangle, wholes(2, 9, 2)}, {triangle, wholes(3, 8, 2)}, {triangle, wholes(2, 7, 2)}, {triangle, wholes(1, 9, 3)}, {triangle, wholes(3, 7, 1)}, {triangle, wholes(0, 10, 4)}, {triangle, wholes(0, 0, 0)}, {triangle, wholes(4, 6, 0)},
		{single(3, 2, 2), wholes(2, 2)}, {single(3, 2, 2), wholes(1, 2)}, {single(3, 2, 2), wholes(1, 1)}, {single(4, 1, 0), wholes(2, 2)}, {single(4, 1, 0), wholes(0, 4)}, {single(4, 1, 0), wholes(1, 2)},
		{single(9, 0), wholes(0)}, {single(9, 5), wholes(4)}, {single(9, 5), wholes(6)}, {single(9, 5), wholes(9)}, {single(9, 0), wholes(1000000000)}, {single(0, 0), wholes(1)}, {single(0, 1), wholes(1)},
		{network([]int{2, 2}, []int{0}, []int{1}), wholes(4, 0)}, {network([]int{2, 2}, []int{0, 1}, []int{1}), wholes(2, 0)}, {network([]int{2, 2}, []int{0, 1}, []int{1}), wholes(0, 2)},
	} {
		if maxmin.Check(s.net, s.want) {
			t.Errorf("Check %v %v: accepted", s.net, s.want)
		}
	}
}

// P13.1: M3, rates whose sums are no ratios, on the way to a sum that fills the link exactly, or at its end; 100000 * 99999 is 9999900000.
func TestGreatSums(t *testing.T) {
	for _, s := range []sharing{
		{single(1, 0, 0, 0, 0), []api.Ratio{of(1, 99999), of(1, 100000), of(99997, 199998), of(49999, 100000)}},
		{single(1, 0, 0), []api.Ratio{of(1, 99999), of(1, 100000)}},
		{single(0, 0, 0), []api.Ratio{of(1, 99999), of(1, 100000)}},
		{single(1, 0, 0), wholes(1000000000, 1000000000)},
		{single(1000, 1000, 1000), []api.Ratio{of(99999999, 100000), of(99998999, 99999)}},
	} {
		if maxmin.Check(s.net, s.want) {
			t.Errorf("Check %v %v: accepted", s.net, s.want)
		}
	}
}

// The rules: arguments stay as they are, and a result is new memory.
func TestMemory(t *testing.T) {
	n := limited(network([]int{10, 4}, []int{0, 1}, []int{0}, []int{1}), 1, 0, 0)
	first, _ := maxmin.Share(n)
	second, _ := maxmin.Share(n)
	first[0] = of(7, 1)
	if want := wholes(1, 9, 3); !slices.Equal(second, want) || !maxmin.Check(n, second) || !slices.Equal(second, want) {
		t.Errorf("%v; want %v", second, want)
	}
	if before := limited(network([]int{10, 4}, []int{0, 1}, []int{0}, []int{1}), 1, 0, 0); !sameNet(n, before) {
		t.Errorf("%v; was %v", n, before)
	}
}
