package maxmin_test

import (
	"math/big"
	"slices"
	"testing"

	"queuelab/api"
	"queuelab/maxmin"
)

// P13.2: of all rates with the denominator 6, exactly the max-min fair ones are accepted; with up to three flows, they are among these.
func TestNoOthersOnGrid(t *testing.T) {
	for flows := range 4 {
		most := 4 - flows
		var grid []api.Ratio
		for num := range 6*most + 7 {
			grid = append(grid, ratioOf(big.NewRat(int64(num), 6)))
		}
		for n := range smallNets(flows, most, 1) {
			want, _ := maxmin.Share(n)
			count := 0
			for x := range tuples(grid, flows) {
				if maxmin.Check(n, x) != slices.Equal(x, want) {
					t.Fatalf("Check %v %v; fair are %v", n, x, want)
				}
				if slices.Equal(x, want) {
					count++
				}
			}
			if count != 1 {
				t.Fatalf("%v: %d", n, count)
			}
		}
	}
}

// other returns rates that differ a little, or much, from given ones; none is negative.
func (m maker) other(x []api.Ratio) []api.Ratio {
	list := values(x)
	part := big.NewRat(1+int64(m.Intn(3)), []int64{1, 2, 3, 5, 18, 1000, 99999, 1000000}[m.Intn(8)])
	i, j := m.Intn(len(x)), m.Intn(len(x))
	switch m.Intn(5) {
	case 0:
		list[i] = new(big.Rat).Add(list[i], part)
	case 1:
		list[i] = new(big.Rat).Sub(list[i], part)
	case 2:
		list[i], list[j] = new(big.Rat).Sub(list[i], part), new(big.Rat).Add(list[j], part)
	case 3:
		list[i], list[j] = list[j], list[i]
	case 4:
		list[i] = big.NewRat(int64(m.Intn(20)), 1+int64(m.Intn(6)))
	}
	for k := range list {
		if list[k].Sign() < 0 {
			list[k] = new(big.Rat)
		}
	}
	return ratiosOf(list)
}

// P13.1, P13.2: M3, rates that are near to the max-min fair ones, and those of networks that are near.
func TestNoOthers(t *testing.T) {
	count := 0
	for m, n := range makers(1302, 20000) {
		if len(n.Flows) == 0 {
			continue
		}
		want, _ := maxmin.Share(n)
		x := m.other(want)
		if m.Intn(4) == 0 {
			x = m.other(x)
		}
		if compareCheck(t, n, x) != slices.Equal(x, want) {
			t.Fatalf("Check %v %v; fair are %v", n, x, want)
		}
		if !slices.Equal(x, want) {
			count++
		}
		compareCheck(t, m.changed(n), want)
	}
	if count < 10000 {
		t.Errorf("%d other rates", count)
	}
}

// copied returns a network that shares no memory with the one that is given.
func copied(n api.Net) api.Net {
	c := api.Net{Caps: slices.Clone(n.Caps), Limits: slices.Clone(n.Limits)}
	for _, links := range n.Flows {
		c.Flows = append(c.Flows, slices.Clone(links))
	}
	return c
}

// changed returns a network with another cap, limit or list of links.
func (m maker) changed(n api.Net) api.Net {
	c := copied(n)
	link, flow := m.Intn(len(c.Caps)), m.Intn(len(c.Flows))
	switch m.Intn(3) {
	case 0:
		c.Caps[link] = min(max(c.Caps[link]+m.Intn(5)-2, 0), 1000)
	case 1:
		c.Limits[flow] = m.Intn(10)
	case 2:
		c.Flows[flow] = m.links(len(c.Caps), 6)
	}
	return c
}

// most returns the greatest rate that a flow can have beside the others.
func most(n api.Net, rates []*big.Rat, flow int) *big.Rat {
	var best *big.Rat
	for _, link := range n.Flows[flow] {
		left, _ := room(n, rates, link)
		if left.Add(left, rates[flow]); best == nil || left.Cmp(best) < 0 {
			best = left
		}
	}
	if limit := n.Limits[flow]; limit > 0 && whole(limit).Cmp(best) < 0 {
		best = whole(limit)
	}
	return best
}

// possible returns possible rates: some flows of given ones have less, often, and then all have as much as there is, or less, in some order.
func (m maker) possible(n api.Net, from []*big.Rat) []*big.Rat {
	rates := slices.Clone(from)
	for range 1 + m.Intn(3) {
		i := m.Intn(len(rates))
		rates[i] = new(big.Rat).Mul(rates[i], big.NewRat(int64(m.Intn(4)), 4))
	}
	for _, i := range m.Perm(len(rates)) {
		extra := new(big.Rat).Sub(most(n, rates, i), rates[i])
		extra.Mul(extra, big.NewRat([]int64{0, 1, 2, 2, 2}[m.Intn(5)], 2))
		rates[i] = extra.Add(extra, rates[i])
	}
	return rates
}

// expectFairest checks what P13.3 and P13.4 say of max-min fair rates beside other possible ones.
func expectFairest(t *testing.T, n api.Net, fair, other []*big.Rat) {
	t.Helper()
	order := func(a, b *big.Rat) int { return a.Cmp(b) }
	a, b := slices.SortedFunc(slices.Values(fair), order), slices.SortedFunc(slices.Values(other), order)
	if slices.CompareFunc(a, b, order) < 0 {
		t.Fatalf("%v: %v, less than %v", n, fair, other)
	}
	for i := range fair {
		loses := func(j int) bool { return fair[j].Cmp(fair[i]) <= 0 && other[j].Cmp(fair[j]) < 0 }
		if other[i].Cmp(fair[i]) > 0 && !slices.ContainsFunc(numbersTo(len(fair)-1), loses) {
			t.Fatalf("%v: the flow %d has more in %v than in %v, at the cost of none with at most its rate", n, i, other, fair)
		}
	}
}

// P13.3, P13.4: beside all possible rates with the denominator 6, in small networks.
func TestFairestOnGrid(t *testing.T) {
	var grid []*big.Rat
	for num := range 13 {
		grid = append(grid, big.NewRat(int64(num), 6))
	}
	for n := range smallNets(3, 2, 1) {
		fair := values(compareShare(t, n))
		for other := range tuples(grid, 3) {
			if isPossible(n, other) {
				expectFairest(t, n, fair, other)
			}
		}
	}
}

// P13.3, P13.4: beside possible rates that are far from the max-min fair ones, and near to them.
func TestFairest(t *testing.T) {
	count := 0
	for m, n := range makers(1303, 5000) {
		if len(n.Flows) == 0 {
			continue
		}
		got, _ := maxmin.Share(n)
		fair := values(got)
		zero := values(slices.Repeat(wholes(0), len(got)))
		for range 4 {
			for _, from := range [][]*big.Rat{zero, fair} {
				other := m.possible(n, from)
				if !isPossible(n, other) {
					t.Fatalf("%v: %v are not possible", n, other)
				}
				expectFairest(t, n, fair, other)
				if !slices.EqualFunc(fair, other, func(a, b *big.Rat) bool { return a.Cmp(b) == 0 }) {
					count++
				}
			}
		}
	}
	if count < 20000 {
		t.Errorf("%d other rates", count)
	}
}

// P13.5: all caps and limits are up to 1000 times as great.
func TestScale(t *testing.T) {
	count := 0
	for m, n := range makers(1305, 20000) {
		greatest := max(slices.Max(n.Caps), 1)
		if len(n.Limits) > 0 {
			greatest = max(greatest, slices.Max(n.Limits))
		}
		times := 1 + m.Intn(1000/greatest)
		scaled := copied(n)
		for i := range scaled.Caps {
			scaled.Caps[i] *= times
		}
		for i := range scaled.Limits {
			scaled.Limits[i] *= times
		}
		rates, _ := maxmin.Share(n)
		want := values(rates)
		for _, x := range want {
			x.Mul(x, whole(times))
		}
		got, err := maxmin.Share(scaled)
		if !slices.Equal(got, ratiosOf(want)) || err != api.OK || !maxmin.Check(scaled, got) {
			t.Fatalf("%v, %d times: %v, %v; before: %v", n, times, got, err, rates)
		}
		if times > 1 {
			count++
		}
	}
	if count < 5000 {
		t.Errorf("%d networks", count)
	}
}

func leastOf(x []api.Ratio) *big.Rat {
	return slices.MinFunc(values(x), func(a, b *big.Rat) int { return a.Cmp(b) })
}

// P13.6: the cap of a link is greater, and the link was full or not.
func TestMoreRoom(t *testing.T) {
	full, others, more := 0, 0, 0
	for m, n := range makers(1306, 30000) {
		link := m.Intn(len(n.Caps))
		if len(n.Flows) == 0 || n.Caps[link] == 1000 {
			continue
		}
		before, _ := maxmin.Share(n)
		greater := copied(n)
		greater.Caps[link] += 1 + m.Intn(min(1000-n.Caps[link], 20))
		after, err := maxmin.Share(greater)
		if err != api.OK || leastOf(after).Cmp(leastOf(before)) < 0 {
			t.Fatalf("%v: %v; with %v: %v, %v", n, before, greater.Caps, after, err)
		}
		if left, _ := room(n, values(before), link); left.Sign() == 0 {
			full++
		} else if others++; !slices.Equal(before, after) || !maxmin.Check(greater, before) {
			t.Fatalf("%v: %v; with %v: %v", n, before, greater.Caps, after)
		}
		if leastOf(after).Cmp(leastOf(before)) > 0 {
			more++
		}
	}
	if min(full, others, more) < 1000 {
		t.Errorf("%d full ones, %d others, %d with more", full, others, more)
	}
}

// P13.7: flows and links are numbered in another way.
func TestOrder(t *testing.T) {
	for m, n := range makers(1307, 20000) {
		flows, links := m.Perm(len(n.Flows)), m.Perm(len(n.Caps))
		other := copied(n)
		before, _ := maxmin.Share(n)
		want := slices.Clone(before)
		for link, to := range links {
			other.Caps[to] = n.Caps[link]
		}
		for flow, to := range flows {
			list := slices.Clone(n.Flows[flow])
			for k := range list {
				list[k] = links[list[k]]
			}
			slices.Sort(list)
			other.Flows[to], other.Limits[to], want[to] = list, n.Limits[flow], before[flow]
		}
		if got, err := maxmin.Share(other); !slices.Equal(got, want) || err != api.OK || !maxmin.Check(other, want) {
			t.Fatalf("%v: %v; %v: %v, %v", n, before, other, got, err)
		}
	}
}

// P13.8: networks with great denominators, of which 18 is the greatest.
func TestDenominators(t *testing.T) {
	third, ninths := of(1, 3), of(5, 9)
	expectSharings(t, []sharing{
		{network([]int{1, 2}, []int{0}, []int{0}, []int{0, 1}, []int{1}, []int{1}), []api.Ratio{third, third, third, of(5, 6), of(5, 6)}},
		{network([]int{1, 2, 2}, []int{0}, []int{0}, []int{0, 1}, []int{1}, []int{1}, []int{1, 2}, []int{2}, []int{2}), []api.Ratio{third, third, third, ninths, ninths, ninths, of(13, 18), of(13, 18)}},
		{network([]int{1, 1, 3}, []int{0}, []int{0}, []int{0, 2}, []int{1}, []int{1, 2}, []int{2}, []int{2}, []int{2}), []api.Ratio{third, third, third, of(1, 2), of(1, 2), of(13, 18), of(13, 18), of(13, 18)}},
		{network([]int{1, 2}, []int{0}, []int{0}, []int{0}, []int{0, 1}, []int{1}, []int{1}, []int{1}, []int{1}), slices.Concat(slices.Repeat([]api.Ratio{of(1, 4)}, 4), slices.Repeat([]api.Ratio{of(7, 16)}, 4))},
		{network([]int{1, 2, 3, 4}, []int{0}, []int{0, 1}, []int{1}, []int{1, 2}, []int{2}, []int{2, 3}, []int{3}, []int{3}), []api.Ratio{of(1, 2), of(1, 2), of(3, 4), of(3, 4), of(9, 8), of(9, 8), of(23, 16), of(23, 16)}},
		{network([]int{1, 3}, []int{0}, []int{0}, []int{0, 1}, []int{1}, []int{1}, []int{1}, []int{1}, []int{1}), slices.Concat(slices.Repeat([]api.Ratio{third}, 3), slices.Repeat([]api.Ratio{of(8, 15)}, 5))},
	})
	for m, n := range makers(1308, 30000) {
		for i := range n.Flows {
			n.Flows[i] = m.links(len(n.Caps), 2)
		}
		rates, err := maxmin.Share(n)
		for _, x := range rates {
			if x.Den > 18 || err != api.OK {
				t.Fatalf("%v: %v, %v", n, rates, err)
			}
		}
	}
}
