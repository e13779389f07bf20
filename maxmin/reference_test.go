package maxmin_test

import (
	"math/big"
	"math/rand"
	"slices"
	"testing"

	"queuelab/api"
	"queuelab/maxmin"
)

func whole(n int) *big.Rat { return big.NewRat(int64(n), 1) }

// value returns the value of a ratio whose denominator is not 0.
func value(a api.Ratio) *big.Rat { return big.NewRat(int64(a.Num), int64(a.Den)) }

func values(list []api.Ratio) []*big.Rat {
	var result []*big.Rat
	for _, a := range list {
		result = append(result, value(a))
	}
	return result
}

// ratioOf returns the ratio of a value, which package big keeps in lowest terms.
func ratioOf(x *big.Rat) api.Ratio { return of(int(x.Num().Int64()), int(x.Denom().Int64())) }

func ratiosOf(list []*big.Rat) []api.Ratio {
	var result []api.Ratio
	for _, x := range list {
		result = append(result, ratioOf(x))
	}
	return result
}

func sameNet(a, b api.Net) bool {
	return slices.Equal(a.Caps, b.Caps) && slices.Equal(a.Limits, b.Limits) && slices.EqualFunc(a.Flows, b.Flows, slices.Equal[[]int])
}

// room returns what given rates leave of the cap of a link; flows without a rate (nil) are counted.
func room(n api.Net, rates []*big.Rat, link int) (*big.Rat, int) {
	left, count := whole(n.Caps[link]), 0
	for i, links := range n.Flows {
		switch {
		case !slices.Contains(links, link):
		case rates[i] == nil:
			count++
		default:
			left.Sub(left, rates[i])
		}
	}
	return left, count
}

// levels returns those of the links, nil for links without a flow that is not fixed.
func levels(n api.Net, rates []*big.Rat) []*big.Rat {
	list := make([]*big.Rat, len(n.Caps))
	for link := range n.Caps {
		if left, count := room(n, rates, link); count > 0 {
			list[link] = left.Quo(left, whole(count))
		}
	}
	return list
}

// wantedRates is the definition, word for word: all flows with a link of the level, or this limit, are fixed at once.
func wantedRates(n api.Net) []*big.Rat {
	rates := make([]*big.Rat, len(n.Flows))
	for slices.Contains(rates, nil) {
		list := levels(n, rates)
		var level *big.Rat
		for _, x := range list {
			if x != nil && (level == nil || x.Cmp(level) < 0) {
				level = x
			}
		}
		for i, limit := range n.Limits {
			if rates[i] == nil && limit > 0 && whole(limit).Cmp(level) < 0 {
				level = whole(limit)
			}
		}
		for i, links := range n.Flows {
			hasLink := slices.ContainsFunc(links, func(l int) bool { return list[l] != nil && list[l].Cmp(level) == 0 })
			if rates[i] == nil && (hasLink || n.Limits[i] > 0 && whole(n.Limits[i]).Cmp(level) == 0) {
				rates[i] = level
			}
		}
	}
	return rates
}

// isPossible is the definition, for rates that are not negative.
func isPossible(n api.Net, rates []*big.Rat) bool {
	for link := range n.Caps {
		if left, _ := room(n, rates, link); left.Sign() < 0 {
			return false
		}
	}
	for i, limit := range n.Limits {
		if limit > 0 && rates[i].Cmp(whole(limit)) > 0 {
			return false
		}
	}
	return true
}

// wantedCheck is the specification of Check, for rates that are valid ratios and not negative.
func wantedCheck(n api.Net, rates []*big.Rat) bool {
	for i, links := range n.Flows {
		stops := slices.ContainsFunc(links, func(link int) bool {
			left, _ := room(n, rates, link)
			for j := range n.Flows {
				if slices.Contains(n.Flows[j], link) && rates[j].Cmp(rates[i]) > 0 {
					return false
				}
			}
			return left.Sign() == 0
		})
		if !stops && (n.Limits[i] == 0 || rates[i].Cmp(whole(n.Limits[i])) != 0) {
			return false
		}
	}
	return isPossible(n, rates)
}

// compareShare checks the result of Share, and returns it.
func compareShare(t *testing.T, n api.Net) []api.Ratio {
	t.Helper()
	want := ratiosOf(wantedRates(n))
	got, err := maxmin.Share(n)
	if !slices.Equal(got, want) || err != api.OK {
		t.Fatalf("Share %v: %v, %v; want %v", n, got, err, want)
	}
	if !maxmin.Valid(n) || !maxmin.Check(n, got) {
		t.Fatalf("%v with %v is refused", n, got)
	}
	return got
}

func compareCheck(t *testing.T, n api.Net, x []api.Ratio) bool {
	t.Helper()
	want := wantedCheck(n, values(x))
	if got := maxmin.Check(n, x); got != want {
		t.Fatalf("Check %v %v: %v", n, x, got)
	}
	return want
}

// tuples yields all lists of so many elements of a list, each in memory of its own.
func tuples[T any](from []T, length int) func(yield func([]T) bool) {
	return func(yield func([]T) bool) {
		places := make([]int, length)
		for {
			var list []T
			for _, p := range places {
				list = append(list, from[p])
			}
			if !yield(list) {
				return
			}
			i := 0
			for i < length && places[i] == len(from)-1 {
				places[i] = 0
				i++
			}
			if i == length {
				return
			}
			places[i]++
		}
	}
}

// smallNets yields all networks with two links, caps up to some number, and flows with limits up to another one.
func smallNets(flows, most, limit int) func(yield func(api.Net) bool) {
	return func(yield func(api.Net) bool) {
		for caps := range tuples(numbersTo(most), 2) {
			for lists := range tuples([][]int{{0}, {1}, {0, 1}}, flows) {
				for limits := range tuples(numbersTo(limit), flows) {
					if !yield(api.Net{Caps: caps, Flows: lists, Limits: limits}) {
						return
					}
				}
			}
		}
	}
}

func numbersTo(most int) []int {
	var list []int
	for n := range most + 1 {
		list = append(list, n)
	}
	return list
}

// maker makes networks and rates.
type maker struct{ *rand.Rand }

// makers yields so many networks, with one that makes more.
func makers(seed int64, count int) func(yield func(maker, api.Net) bool) {
	return func(yield func(maker, api.Net) bool) {
		m := maker{rand.New(rand.NewSource(seed))}
		for range count {
			if !yield(m, m.net()) {
				return
			}
		}
	}
}

// net returns a network of any size; caps that grow from link to link lead to more rounds.
func (m maker) net() api.Net {
	n := api.Net{Caps: make([]int, 1+m.Intn(8))}
	most, step := []int{2, 5, 20, 100, 1000}[m.Intn(5)], m.Intn(4)
	for i := range n.Caps {
		n.Caps[i] = min(m.Intn(most+1)+i*step, 1000)
	}
	hops, limits := 1+m.Intn(6), m.Intn(3)
	for range []int{m.Intn(9), 8}[m.Intn(2)] {
		n.Flows = append(n.Flows, m.links(len(n.Caps), hops))
		limit := 0
		if m.Intn(3) < limits {
			limit = m.Intn(most/2 + 1)
		}
		n.Limits = append(n.Limits, limit)
	}
	return n
}

// links returns some of so many links, but at most hops.
func (m maker) links(count, hops int) []int {
	list := m.Perm(count)[:1+m.Intn(min(count, hops))]
	slices.Sort(list)
	return list
}

// P13.1: M2, all networks with two links and up to three flows, with small numbers.
func TestAllSmallNets(t *testing.T) {
	count := 0
	for flows := range 4 {
		for n := range smallNets(flows, 4, 3) {
			compareShare(t, n)
			count++
		}
	}
	if count != 25*(1+12+144+1728) {
		t.Errorf("%d networks", count)
	}
}

// P13.1: M2, all networks with three links and three flows, with smaller numbers.
func TestAllNetsOfThree(t *testing.T) {
	for caps := range tuples([]int{0, 1, 3}, 3) {
		for lists := range tuples([][]int{{0}, {1}, {2}, {0, 1}, {0, 2}, {1, 2}, {0, 1, 2}}, 3) {
			for limits := range tuples([]int{0, 1}, 3) {
				compareShare(t, api.Net{Caps: caps, Flows: lists, Limits: limits})
			}
		}
	}
}

// P13.1: M2, many networks of all sizes, among which there are some with many different rates.
func TestManyNets(t *testing.T) {
	count := map[int]int{}
	for _, n := range makers(1301, 30000) {
		different := map[api.Ratio]bool{}
		for _, rate := range compareShare(t, n) {
			different[rate] = true
		}
		count[len(different)]++
	}
	for rates := range 7 {
		if count[rates] < 30 {
			t.Errorf("%d different rates: %d networks", rates, count[rates])
		}
	}
}
