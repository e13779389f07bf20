package prices_test

import (
	"math"
	"math/big"
	"slices"
	"testing"

	"queuelab/api"
	"queuelab/prices"
)

func gapOf(p proposal) (int, api.Errno) { return prices.Gap(p.net, p.rates, p.prices) }

// isAccepted reports whether a proposal with a gap is a right certificate.
func (p proposal) isAccepted(gap int) bool { return prices.Check(p.net, p.cert(gap)) }

// expectAs expects that a proposal has given results of Gap, and that Check agrees with them.
func expectAs(t *testing.T, p proposal, wantGap int, wantErr api.Errno) {
	t.Helper()
	if gap, err := gapOf(p); gap != wantGap || err != wantErr {
		t.Fatalf("Gap %v: %v, %v; want %v, %v", p, gap, err, wantGap, wantErr)
	}
	for _, gap := range []int{wantGap - 1, wantGap, wantGap + 1, api.MaxValue} {
		want := wantErr == api.OK && gap >= wantGap && gap <= api.MaxValue
		if p.isAccepted(gap) != want {
			t.Fatalf("Check %v, gap %v: %v", p, gap, !want)
		}
	}
}

// isOfSound reports whether Gap answers this for rates and prices that are sound.
func isOfSound(err api.Errno) bool { return err == api.OK || err == api.ErrRange }

// exact returns a proposal whose gap is 0, with loads that are exactly the caps: all links on a path have the same price, and flows use only their shortest paths.
func (m maker) exact() proposal {
	links := 5 + m.Intn(4)
	p := proposal{net: api.Multi{Caps: make([]int, links)}, prices: make([]int, links)}
	times := []int{1, 2, 4, 5, 8, 10}[m.Intn(6)]
	for range 1 + m.Intn(8) {
		hops := []int{1, 2, 5}[m.Intn(3)]
		left := 10 * times / hops
		var paths [][]int
		var rates []int
		for range 1 + m.Intn(4) {
			length := min(hops+m.Intn(2)*m.Intn(3), links, 6)
			path := m.Perm(links)[:length]
			slices.Sort(path)
			units := 0
			if length == hops {
				units = m.Intn(left + 1)
			}
			left -= units
			paths, rates = append(paths, path), append(rates, units*1000000)
		}
		paths[0] = m.Perm(links)[:hops]
		slices.Sort(paths[0])
		rates[0] += left * 1000000
		p.net.Flows, p.rates = append(p.net.Flows, paths), append(p.rates, rates)
	}
	for link := range links {
		p.net.Caps[link] = int(p.load(link).Int64()) / 1000000
	}
	for _, s := range inOrder(p.net) {
		for _, link := range p.net.Flows[s.flow][s.at] {
			p.prices[link] = 100000 / times
		}
	}
	return p
}

// P14.2: with the gap that Gap returns and every greater one a certificate is right, with a lesser one it is not.
func TestLeastGap(t *testing.T) {
	count := 0
	for m, p := range makers(1421, 20000) {
		least, err := gapOf(p)
		gaps := []int{math.MinInt, -1, 0, 1, least - 1, least, least + 1, least / 2, 2 * least, 999999999999, 1000000000000, 1000000000001, math.MaxInt}
		for range 10 {
			gaps = append(gaps, m.Intn(1000000000000), least+m.Intn(1000), least-m.Intn(1000))
		}
		for _, gap := range gaps {
			want := err == api.OK && gap >= least && gap <= 1000000000000
			if p.isAccepted(gap) != want {
				t.Fatalf("Check %v, gap %v: %v; least: %v, %v", p, gap, !want, least, err)
			}
		}
		if err == api.OK && least > 0 {
			count++
		}
	}
	if count < 5000 {
		t.Errorf("%d gaps", count)
	}
}

// bound returns the number of flows and a gap of so many millionths.
func (p proposal) bound(gap *big.Int) *big.Rat {
	sum := new(big.Rat).SetFrac(gap, million)
	return sum.Add(sum, whole(len(p.net.Flows)))
}

func (p proposal) hasPositiveRates() bool {
	return !slices.ContainsFunc(p.rates, func(list []int) bool { return total(list).Sign() == 0 })
}

// P14.3: the greatest sum of Y / X of all rates that the links carry is within the bound, for certificates near it and far from it.
func TestBound(t *testing.T) {
	right, near := 0, 0
	for m, p := range makers(1431, 4000) {
		for range 3 {
			if gap, err := gapOf(p); err == api.OK {
				o := best(t, p)
				if o.sum.Cmp(p.bound(number(gap))) > 0 {
					t.Fatalf("%v with the gap %v: the sum %v is possible", p, gap, o.sum)
				}
				right++
				if p.bound(number(gap)).Cmp(new(big.Rat).Add(o.sum, big.NewRat(1, 100))) <= 0 {
					near++
				}
			}
			p = m.changed(p)
		}
	}
	if right < 3000 || near < 300 {
		t.Errorf("%d certificates, %d near the bound", right, near)
	}
}

// P14.2, P14.3: with the best prices, rounded up, the least gap is the one that the greatest sum asks for, but for what is rounded.
func TestBoundIsReached(t *testing.T) {
	count := 0
	for m, p := range makers(1432, 4000) {
		if m.Intn(2) == 0 {
			p = m.exact()
		}
		if !p.hasPositiveRates() {
			continue
		}
		o := best(t, p)
		for link, worth := range o.worths {
			p.prices[link] = roundedUp(worth)
		}
		gap, err := gapOf(p)
		most := new(big.Rat).Add(o.sum, new(big.Rat).SetFrac(total(p.net.Caps), million))
		isGreat := most.Cmp(p.bound(trillion)) > 0
		if err != api.OK && !(isGreat && err == api.ErrRange) {
			t.Fatalf("%v: %v, %v; the greatest sum is %v", p, gap, err, o.sum)
		}
		if err == api.OK {
			if b := p.bound(number(gap)); b.Cmp(o.sum) < 0 || b.Cmp(most) > 0 {
				t.Fatalf("%v: %v; the greatest sum is %v", p, gap, o.sum)
			}
			count++
		}
	}
	if count < 2000 {
		t.Errorf("%d certificates", count)
	}
}

// expectFull checks what P14.4 says of a proposal with its least gap.
func expectFull(t *testing.T, p proposal, gap int) {
	t.Helper()
	sum := new(big.Int)
	for link, price := range p.prices {
		left := p.left(link)
		if gap == 0 && price > 0 && left.Sign() != 0 {
			t.Fatalf("%v: the gap is 0, the link %d has a price, and %v is left", p, link, left)
		}
		sum.Add(sum, product(number(price), left))
	}
	if sum.Cmp(product(million, number(gap))) > 0 {
		t.Fatalf("%v: the gap is %v, and what is left is worth %v", p, gap, sum)
	}
}

// P14.4: what is left of the caps, at its prices, is at most the gap.
func TestFullLinks(t *testing.T) {
	count := 0
	for m, p := range makers(1441, 20000) {
		for range 3 {
			if gap, err := gapOf(p); err == api.OK {
				expectFull(t, p, gap)
				count++
			}
			p = m.changed(p)
		}
	}
	if count < 15000 {
		t.Errorf("%d certificates", count)
	}
}

// P14.4: with the gap 0 each link with a price is full; a little less load, or more cap, costs what it is worth.
func TestNoGap(t *testing.T) {
	count := 0
	for m := range makers(1442, 10000) {
		p := m.exact()
		expectAs(t, p, 0, api.OK)
		expectFull(t, p, 0)
		link, more := m.Intn(len(p.prices)), 1+m.Intn(20)
		if p.prices[link] == 0 {
			continue
		}
		wider := p.copied()
		wider.net.Caps[link] += more
		if wider.net.Caps[link] <= 1000 {
			expectAs(t, wider, p.prices[link]*more, api.OK)
			expectFull(t, wider, p.prices[link]*more)
		}
		s := m.subs(p.net)[0]
		if p.rates[s.flow][s.at] > 0 {
			p.rates[s.flow][s.at]--
			expectAs(t, p, 0, api.ErrProof)
			count++
		}
	}
	if count < 2000 {
		t.Errorf("%d rates", count)
	}
}

// mixed yields proposals of all kinds whose network is valid, and that have rates and prices for it.
func mixed(seed int64, count int) func(yield func(maker, proposal) bool) {
	return func(yield func(maker, proposal) bool) {
		for m, p := range makers(seed, count) {
			switch m.Intn(4) {
			case 0:
				p = m.exact()
			case 1:
				p = m.changed(p)
			}
			if _, err := gapOf(p); err != api.ErrArg && !yield(m, p) {
				return
			}
		}
	}
}

// P14.5: the flows, and the paths of each of them, are in another order.
func TestOrder(t *testing.T) {
	count := map[api.Errno]int{}
	for m, p := range mixed(1451, 20000) {
		other := p.copied()
		for to, from := range m.Perm(len(p.rates)) {
			paths, rates := p.net.Flows[from], p.rates[from]
			other.net.Flows[to], other.rates[to] = nil, nil
			for _, at := range m.Perm(len(paths)) {
				other.net.Flows[to] = append(other.net.Flows[to], paths[at])
				other.rates[to] = append(other.rates[to], rates[at])
			}
		}
		gap, err := gapOf(p)
		expectAs(t, other, gap, err)
		count[err]++
	}
	for _, err := range []api.Errno{api.OK, api.ErrProof, api.ErrRange} {
		if count[err] < 500 {
			t.Errorf("%v: %d proposals", err, count[err])
		}
	}
}

// P14.6: the rate of a flow becomes 0, or the prices of all links of a path, at each place.
func TestZeros(t *testing.T) {
	count := 0
	for _, p := range mixed(1461, 10000) {
		if _, err := gapOf(p); !isOfSound(err) {
			continue
		}
		for flow := range p.rates {
			c := p.copied()
			clear(c.rates[flow])
			expectAs(t, c, 0, api.ErrProof)
		}
		for _, s := range inOrder(p.net) {
			c := p.copied()
			for _, link := range p.net.Flows[s.flow][s.at] {
				c.prices[link] = 0
			}
			expectAs(t, c, 0, api.ErrProof)
		}
		count++
	}
	if count < 5000 {
		t.Errorf("%d proposals", count)
	}
}

// withLink returns a proposal with a further link, on no path, with the price 0; the links from its place on are numbered anew.
func (p proposal) withLink(at, capacity int) proposal {
	c := p.copied()
	c.net.Caps = slices.Insert(c.net.Caps, at, capacity)
	c.prices = slices.Insert(c.prices, at, 0)
	for _, s := range inOrder(c.net) {
		path := c.net.Flows[s.flow][s.at]
		for i := range path {
			if path[i] >= at {
				path[i]++
			}
		}
	}
	return c
}

// P14.7: a further link that is on no path changes nothing, wherever it is.
func TestUnusedLinks(t *testing.T) {
	count := map[api.Errno]int{}
	for m, p := range mixed(1471, 20000) {
		if len(p.prices) == 8 {
			continue
		}
		gap, err := gapOf(p)
		for _, at := range []int{0, m.Intn(len(p.prices) + 1), len(p.prices)} {
			for _, capacity := range []int{0, m.Intn(1001), 1000} {
				expectAs(t, p.withLink(at, capacity), gap, err)
			}
		}
		count[err]++
	}
	for _, err := range []api.Errno{api.OK, api.ErrProof, api.ErrRange} {
		if count[err] < 500 {
			t.Errorf("%v: %d proposals", err, count[err])
		}
	}
}

// P14.8: with a greater cap the rates and prices remain sound, and the cost grows by the price times what the cap grows.
func TestCaps(t *testing.T) {
	within, beyond := 0, 0
	for m, p := range mixed(1481, 20000) {
		gap, err := gapOf(p)
		if !isOfSound(err) {
			continue
		}
		for link := range p.prices {
			wider := p.copied()
			wider.net.Caps[link] += m.Intn(1001 - p.net.Caps[link])
			more := p.prices[link] * (wider.net.Caps[link] - p.net.Caps[link])
			if err == api.OK && gap+more <= 1000000000000 {
				expectAs(t, wider, gap+more, api.OK)
				within++
			} else {
				expectAs(t, wider, 0, api.ErrRange)
				beyond++
			}
		}
	}
	if within < 10000 || beyond < 1000 {
		t.Errorf("%d within the range, %d beyond", within, beyond)
	}
}
