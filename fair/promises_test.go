package fair_test

import (
	"math/big"
	"reflect"
	"slices"
	"testing"

	"queuelab/api"
	"queuelab/fair"
	"queuelab/prices"
)

// certOf expects that a network has a certificate.
func certOf(t *testing.T, n api.Net, rounds int) api.Cert {
	t.Helper()
	c, err := fair.Solve(n, rounds)
	if err != api.OK {
		t.Fatalf("Solve %v, %d rounds: %v", n, rounds, err)
	}
	return c
}

// pathsOf returns the network of layer 14 whose flows have one path each.
func pathsOf(n api.Net) api.Multi {
	m := api.Multi{Caps: n.Caps}
	for _, links := range n.Flows {
		m.Flows = append(m.Flows, [][]int{links})
	}
	return m
}

// rounds returns a number of them, mostly a small one.
func (m maker) rounds() int { return m.Intn([]int{1, 5, 50, 300}[m.Intn(4)]) }

// P15.2: the certificate is right by layer 14 and by its definition, with this gap, and with no lesser one.
func TestRight(t *testing.T) {
	count := 0
	for m, n := range makers(1521, 4000) {
		c := certOf(t, n, m.rounds())
		gap, err := prices.Gap(pathsOf(n), c.Rates, c.Prices)
		least := leastGap(n, numbers(slices.Concat(c.Rates...)), numbers(c.Prices))
		if err != api.OK || gap != c.Gap || !prices.Check(pathsOf(n), c) || least == nil || least.Cmp(number(c.Gap)) != 0 {
			t.Fatalf("%v: %v; layer 14: %v, %v; by the definition: %v", n, c, gap, err, least)
		}
		c.Gap--
		if prices.Check(pathsOf(n), c) {
			t.Fatalf("%v: %v is right, too", n, c)
		}
		if c.Gap >= 0 {
			count++
		}
	}
	if count < 2000 {
		t.Errorf("%d certificates with a gap", count)
	}
}

// bound returns the number of flows and the gap.
func bound(c api.Cert) *big.Rat {
	return new(big.Rat).Add(big.NewRat(int64(len(c.Rates)), 1), new(big.Rat).SetFrac(number(c.Gap), million))
}

// P15.3: the greatest sum of Y / X of all rates that the links carry is within the bound, and often near it.
func TestBound(t *testing.T) {
	count, near := 0, 0
	for m, n := range makers(1531, 1500) {
		c := certOf(t, n, m.rounds())
		sum := greatest(n, c.Rates)
		if sum.Cmp(bound(c)) > 0 {
			t.Fatalf("%v: %v, but the sum %v is possible", n, c, sum)
		}
		if bound(c).Cmp(new(big.Rat).Add(sum, big.NewRat(1, 1000))) <= 0 {
			near++
		}
		count++
	}
	if near < count/4 {
		t.Errorf("%d of %d certificates are near the bound", near, count)
	}
}

// P15.3: the bound also holds for the rates of other numbers of rounds, and for those of an equal share of each link.
func TestBoundOfOthers(t *testing.T) {
	for m, n := range makers(1532, 2000) {
		c := certOf(t, n, m.rounds())
		equal := corner{part: 840}
		for _, links := range n.Flows {
			share := 840000
			for _, link := range links {
				share = min(share, n.Caps[link]*840/len(through(n, link)))
			}
			equal.rates = append(equal.rates, share)
		}
		other := corner{slices.Concat(certOf(t, n, m.rounds()).Rates...), 1000000}
		for _, y := range []corner{equal, other} {
			if !y.isCarried(n) || y.against(c.Rates).Cmp(bound(c)) > 0 {
				t.Fatalf("%v: %v, but %v is possible", n, c, y)
			}
		}
	}
}

// P15.4: with each further round the gap is less, or the certificate stays.
func TestMoreRounds(t *testing.T) {
	less, stays := 0, 0
	for m, n := range makers(1541, 300) {
		last := certOf(t, n, 0)
		for rounds := 1; rounds <= 1000; rounds += 1 + m.Intn(rounds) {
			c := certOf(t, n, rounds)
			switch {
			case c.Gap < last.Gap:
				less++
			case reflect.DeepEqual(c, last):
				stays++
			default:
				t.Fatalf("%v, %d rounds: %v after %v", n, rounds, c, last)
			}
			last = c
		}
	}
	if less < 500 || stays < 500 {
		t.Errorf("%d times less, %d times the same", less, stays)
	}
}

// expectEqualShares checks what P15.5 says of flows that use only the link at a place.
func expectEqualShares(t *testing.T, n api.Net, link, rounds int) {
	t.Helper()
	c := certOf(t, n, rounds)
	capacity, flows := n.Caps[link], len(n.Flows)
	for _, list := range c.Rates {
		if len(list) != 1 || list[0] != capacity*1000000/flows {
			t.Fatalf("%v, %d rounds: %v", n, rounds, c)
		}
	}
	for other, price := range c.Prices {
		if (price > 0) != (other == link) {
			t.Fatalf("%v, %d rounds: %v", n, rounds, c)
		}
	}
	if len(c.Rates) != flows || c.Gap < 0 || c.Gap > capacity+flows*flows+1 {
		t.Fatalf("%v, %d rounds: %v", n, rounds, c)
	}
}

// P15.5: all caps of one link, all numbers of flows, and some numbers of rounds.
func TestOneLink(t *testing.T) {
	for capacity := 1; capacity <= 1000; capacity++ {
		for flows := 1; flows <= 8; flows++ {
			for _, rounds := range []int{0, 1, 7, 20} {
				expectEqualShares(t, single(capacity, flows), 0, rounds)
			}
		}
	}
	for capacity := 1; capacity <= 1000; capacity += 37 {
		for flows := 1; flows <= 8; flows++ {
			expectEqualShares(t, single(capacity, flows), 0, 1000)
		}
	}
}

// P15.5: one of several links, the others of which are not used.
func TestOneOfSeveralLinks(t *testing.T) {
	for m, n := range makers(1551, 1000) {
		link := m.Intn(len(n.Caps))
		n.Caps[link] = max(1, n.Caps[link])
		for flow := range n.Flows {
			n.Flows[flow] = []int{link}
		}
		expectEqualShares(t, n, link, m.rounds())
	}
}

// P15.6: flows with the same links have the same rate.
func TestEqualFlows(t *testing.T) {
	count := 0
	for m, n := range makers(1561, 4000) {
		for range m.Intn(8) {
			from, to := m.Intn(len(n.Flows)), m.Intn(len(n.Flows))
			n.Flows[to] = n.Flows[from]
		}
		c := certOf(t, n, m.rounds())
		for i, a := range n.Flows {
			for j, b := range n.Flows[:i] {
				if !slices.Equal(a, b) {
					continue
				}
				if !slices.Equal(c.Rates[i], c.Rates[j]) {
					t.Fatalf("%v: %v; the flows %d and %d have the same links", n, c, i, j)
				}
				count++
			}
		}
	}
	if count < 5000 {
		t.Errorf("%d pairs of flows", count)
	}
}

// P15.7: the flows are in another order.
func TestOrder(t *testing.T) {
	count := 0
	for m, n := range makers(1571, 4000) {
		rounds := m.rounds()
		c := certOf(t, n, rounds)
		other := net(n.Caps)
		want := api.Cert{Prices: c.Prices, Gap: c.Gap}
		for _, from := range m.Perm(len(n.Flows)) {
			other.Flows, other.Limits = append(other.Flows, n.Flows[from]), append(other.Limits, 0)
			want.Rates = append(want.Rates, c.Rates[from])
		}
		if got := certOf(t, other, rounds); !reflect.DeepEqual(got, want) {
			t.Fatalf("%v, %d rounds: %v; %v: %v", n, rounds, c, other, got)
		}
		if !reflect.DeepEqual(want, c) {
			count++
		}
	}
	if count < 1500 {
		t.Errorf("%d other orders of rates", count)
	}
}

// P15.8: a further link at the end that is not used changes nothing, whatever its cap is.
func TestUnusedLinks(t *testing.T) {
	count := 0
	for m, n := range makers(1581, 3000) {
		if len(n.Caps) == 8 {
			continue
		}
		rounds := m.rounds()
		want := certOf(t, n, rounds)
		want.Prices = append(slices.Clone(want.Prices), 0)
		for _, capacity := range []int{0, 1, m.Intn(1001), 1000} {
			wider := copied(n)
			wider.Caps = append(wider.Caps, capacity)
			if got := certOf(t, wider, rounds); !reflect.DeepEqual(got, want) {
				t.Fatalf("%v, %d rounds: %v; want %v", wider, rounds, got, want)
			}
		}
		count++
	}
	if count < 2000 {
		t.Errorf("%d networks", count)
	}
}
