package prices_test

import (
	"math/big"
	"math/rand"
	"slices"
	"testing"

	"queuelab/api"
	"queuelab/prices"
)

var (
	million  = big.NewInt(1000000)
	trillion = big.NewInt(1000000000000)
)

func number(n int) *big.Int { return big.NewInt(int64(n)) }

func product(a, b *big.Int) *big.Int { return new(big.Int).Mul(a, b) }

func total(list []int) *big.Int {
	sum := new(big.Int)
	for _, n := range list {
		sum.Add(sum, number(n))
	}
	return sum
}

func isOutside(least, most int) func(int) bool {
	return func(n int) bool { return n < least || n > most }
}

// isValid is the definition, word for word.
func isValid(n api.Multi) bool {
	if len(n.Caps) < 1 || len(n.Caps) > 8 || slices.ContainsFunc(n.Caps, isOutside(0, 1000)) || len(n.Flows) < 1 || len(n.Flows) > 8 {
		return false
	}
	for _, paths := range n.Flows {
		if len(paths) < 1 || len(paths) > 4 {
			return false
		}
		for _, path := range paths {
			ordered := slices.Clone(path)
			slices.Sort(ordered)
			ordered = slices.Compact(ordered)
			if len(path) < 1 || len(path) > 6 || slices.ContainsFunc(path, isOutside(0, len(n.Caps)-1)) || !slices.Equal(path, ordered) {
				return false
			}
		}
	}
	return true
}

// isFor is the definition of rates and prices for a valid network.
func (p proposal) isFor() bool {
	if len(p.rates) != len(p.net.Flows) || len(p.prices) != len(p.net.Caps) || slices.ContainsFunc(p.prices, isOutside(0, 1000000000000)) {
		return false
	}
	for flow, list := range p.rates {
		if len(list) != len(p.net.Flows[flow]) || slices.ContainsFunc(list, isOutside(0, 1000000000)) {
			return false
		}
	}
	return true
}

func (p proposal) load(link int) *big.Int {
	var list []int
	for flow, paths := range p.net.Flows {
		for i, path := range paths {
			if slices.Contains(path, link) {
				list = append(list, p.rates[flow][i])
			}
		}
	}
	return total(list)
}

// left returns what the load leaves of a cap, in millionths.
func (p proposal) left(link int) *big.Int {
	return new(big.Int).Sub(product(million, number(p.net.Caps[link])), p.load(link))
}

func (p proposal) price(path []int) *big.Int {
	var list []int
	for _, link := range path {
		list = append(list, p.prices[link])
	}
	return total(list)
}

func (p proposal) cost() *big.Int {
	sum := new(big.Int)
	for link, most := range p.net.Caps {
		sum.Add(sum, product(number(p.prices[link]), number(most)))
	}
	return sum
}

// isSound is the definition.
func (p proposal) isSound() bool {
	for link := range p.net.Caps {
		if p.left(link).Sign() < 0 {
			return false
		}
	}
	for flow, paths := range p.net.Flows {
		rate := total(p.rates[flow])
		if rate.Sign() < 1 {
			return false
		}
		for _, path := range paths {
			if product(p.price(path), rate).Cmp(trillion) < 0 {
				return false
			}
		}
	}
	return true
}

// paid returns a million for each flow, and some gap.
func (p proposal) paid(gap int) *big.Int {
	sum := product(million, number(len(p.net.Flows)))
	return sum.Add(sum, number(gap))
}

// wantedGap returns the least gap by the definition; there is none that is negative.
func (p proposal) wantedGap() (int, api.Errno) {
	if !isValid(p.net) || !p.isFor() {
		return 0, api.ErrArg
	}
	if !p.isSound() {
		return 0, api.ErrProof
	}
	gap := new(big.Int).Sub(p.cost(), p.paid(0))
	switch {
	case gap.Sign() < 0:
		return 0, api.OK
	case gap.Cmp(trillion) > 0:
		return 0, api.ErrRange
	}
	return int(gap.Int64()), api.OK
}

// isRight is the definition of a right certificate.
func (p proposal) isRight(gap int) bool {
	return isValid(p.net) && p.isFor() && p.isSound() && gap >= 0 && gap <= 1000000000000 && p.cost().Cmp(p.paid(gap)) <= 0
}

// compare checks all results for a proposal, and returns those of Gap; the gaps are those near the least one, and some others.
func compare(t *testing.T, p proposal, others ...int) (int, api.Errno) {
	t.Helper()
	if got := prices.Valid(p.net); got != isValid(p.net) {
		t.Fatalf("Valid %v: %v", p.net, got)
	}
	want, wantErr := p.wantedGap()
	gap, err := prices.Gap(p.net, p.rates, p.prices)
	if gap != want || err != wantErr {
		t.Fatalf("Gap %v: %v, %v; want %v, %v", p, gap, err, want, wantErr)
	}
	for _, g := range append(others, want-1, want, want+1, 0, 1000000000000, 1000000000001) {
		if got := prices.Check(p.net, p.cert(g)); got != p.isRight(g) {
			t.Fatalf("Check %v, gap %v: %v", p, g, got)
		}
	}
	return gap, err
}

// maker makes proposals.
type maker struct{ *rand.Rand }

// makers yields so many proposals, with one that makes more.
func makers(seed int64, count int) func(yield func(maker, proposal) bool) {
	return func(yield func(maker, proposal) bool) {
		m := maker{rand.New(rand.NewSource(seed))}
		for range count {
			if !yield(m, m.proposal()) {
				return
			}
		}
	}
}

// proposal returns one that is sound, or nearly so, mostly.
func (m maker) proposal() proposal {
	n := m.net()
	p := proposal{net: n, rates: m.rates(n)}
	p.prices = m.prices(p)
	return p
}

// net returns a network of any size.
func (m maker) net() api.Multi {
	n := api.Multi{Caps: make([]int, 1+m.Intn(8))}
	most := []int{1, 2, 10, 100, 1000}[m.Intn(5)]
	for i := range n.Caps {
		n.Caps[i] = 1 + m.Intn(most)
		if m.Intn(30) == 0 {
			n.Caps[i] = 0
		}
	}
	subs, hops := 1+m.Intn(4), 1+m.Intn(6)
	for range 1 + m.Intn(8) {
		var paths [][]int
		for range 1 + m.Intn(subs) {
			paths = append(paths, m.links(len(n.Caps), hops))
		}
		n.Flows = append(n.Flows, paths)
	}
	return n
}

// links returns some of so many links, but at most hops.
func (m maker) links(count, hops int) []int {
	list := m.Perm(count)[:1+m.Intn(min(count, hops))]
	slices.Sort(list)
	return list
}

// sub names a path of a flow.
type sub struct{ flow, at int }

// subs returns all paths of a network, in some order.
func (m maker) subs(n api.Multi) []sub {
	var list []sub
	for flow, paths := range n.Flows {
		for at := range paths {
			list = append(list, sub{flow, at})
		}
	}
	m.Shuffle(len(list), func(i, j int) { list[i], list[j] = list[j], list[i] })
	return list
}

// rates returns some that the links carry: parts of what is left, path by path, and mostly all that is left at last. Some flows have next to nothing.
func (m maker) rates(n api.Multi) [][]int {
	p := proposal{net: n}
	for _, paths := range n.Flows {
		p.rates = append(p.rates, make([]int, len(paths)))
	}
	small := m.Intn(4) == 0
	for _, part := range []int{8, 4, 2, 1}[:2+m.Intn(3)] {
		for _, s := range m.subs(n) {
			room := 1000000000
			for _, link := range n.Flows[s.flow][s.at] {
				room = min(room, int(p.left(link).Int64()))
			}
			if small {
				room = min(room, m.Intn(1000))
			}
			if m.Intn(4) > 0 {
				p.rates[s.flow][s.at] += room / part
			}
		}
	}
	return p.rates
}

// shortage returns what a path lacks of the least price that is sound.
func (p proposal) shortage(s sub) int {
	rate := total(p.rates[s.flow])
	if rate.Sign() == 0 {
		return 0
	}
	least := new(big.Int).Add(trillion, rate)
	least.Sub(least, number(1)).Div(least, rate)
	return int(least.Sub(least, p.price(p.net.Flows[s.flow][s.at])).Int64())
}

// prices returns some that are sound if the rates are: where a path lacks something, it is added to one of its links.
func (m maker) prices(p proposal) []int {
	p.prices = make([]int, len(p.net.Caps))
	for link := range p.prices {
		if m.Intn(4) == 0 {
			p.prices[link] = m.Intn([]int{2, 1000, 1000000}[m.Intn(3)])
		}
	}
	for _, s := range m.subs(p.net) {
		if lack := p.shortage(s); lack > 0 {
			path := p.net.Flows[s.flow][s.at]
			p.prices[path[m.Intn(len(path))]] += lack
		}
	}
	return p.prices
}

// changed returns a proposal that differs a little in a rate, a price or a cap.
func (m maker) changed(p proposal) proposal {
	c := p.copied()
	step := []int{-1, 1, -1, 1, -1000, 1000, -1000000, 1000000, -1000000000000, 1000000000000}[m.Intn(10)]
	link := m.Intn(len(c.prices))
	s := m.subs(c.net)[0]
	switch m.Intn(5) {
	case 0, 1:
		c.rates[s.flow][s.at] += step
	case 2, 3:
		c.prices[link] += step
	case 4:
		c.net.Caps[link] += step
	}
	return c
}

// broken returns a proposal with something more or less in a list, or with other links on a path.
func (m maker) broken(p proposal) proposal {
	c := p.copied()
	s, link := m.subs(c.net)[0], m.Intn(len(c.prices))
	paths := c.net.Flows[s.flow]
	switch m.Intn(8) {
	case 0:
		c.rates = c.rates[:len(c.rates)-1]
	case 1:
		c.rates = append(c.rates, []int{1000000})
	case 2:
		c.rates[s.flow] = c.rates[s.flow][:s.at]
	case 3:
		c.rates[s.flow] = append(c.rates[s.flow], 0)
	case 4:
		c.prices = c.prices[:link]
	case 5:
		c.prices = append(c.prices, 0)
	case 6:
		paths[s.at] = append(paths[s.at], m.Intn(9))
	case 7:
		paths[s.at][m.Intn(len(paths[s.at]))] += m.Intn(17) - 8
	}
	return c
}

// P14.1, P14.2: N1 to N3, many proposals of all sizes, and others that differ a little from them.
func TestManyProposals(t *testing.T) {
	count := map[api.Errno]int{}
	for m, p := range makers(1401, 30000) {
		for range 3 {
			_, err := compare(t, p, m.Intn(2000000), m.Intn(1000000000000), -m.Intn(1000000000000))
			count[err]++
			p = m.changed(p)
		}
	}
	for _, err := range []api.Errno{api.OK, api.ErrArg, api.ErrProof, api.ErrRange} {
		if count[err] < 1000 {
			t.Errorf("%v: %d proposals", err, count[err])
		}
	}
}

// P14.1: N1 to N3, lists of other lengths, and paths with other links.
func TestBrokenProposals(t *testing.T) {
	count := map[api.Errno]int{}
	for m, p := range makers(1402, 30000) {
		_, err := compare(t, m.broken(p))
		count[err]++
	}
	if count[api.ErrArg] < 10000 {
		t.Errorf("%v", count)
	}
}

// pairs returns all lists of two elements of a list.
func pairs(from []int) [][]int {
	var lists [][]int
	for _, a := range from {
		for _, b := range from {
			lists = append(lists, []int{a, b})
		}
	}
	return lists
}

// P14.1, P14.2: N2 and N3, small networks with all rates and prices of grids with the edges.
func TestGrid(t *testing.T) {
	count := map[api.Errno]int{}
	rateGrid := []int{0, 1, 2, 499999, 500000, 500001, 1000000, 1000001}
	priceGrid := []int{0, 1, 999999, 1000000, 1000001, 1999992, 2000000, 2000004, 499999999999, 500000000000, 1000000000000}
	for _, flows := range [][][][]int{{{{0}}, {{1}}}, {{{0, 1}}, {{1}}}, {{{0}, {1}}}, {{{0, 1}, {0}}}, {{{0}}, {{0}}}} {
		for _, caps := range pairs([]int{0, 1, 2}) {
			for _, rates := range pairs(rateGrid) {
				lists := [][]int{rates}
				if len(flows) == 2 {
					lists = each(rates...)
				}
				for _, list := range pairs(priceGrid) {
					_, err := compare(t, proposal{api.Multi{Caps: caps, Flows: flows}, lists, list})
					count[err]++
				}
			}
		}
	}
	if count[api.OK] < 1000 || count[api.ErrProof] < 1000 || count[api.ErrRange] < 1000 {
		t.Errorf("%v", count)
	}
}

// P14.1: N1, all numbers of links, flows, paths and hops.
func TestAllSizes(t *testing.T) {
	for links := range 11 {
		for flows := range 11 {
			for subs := range 7 {
				for hops := range 9 {
					path := make([]int, hops)
					for i := range path {
						path[i] = i
					}
					p := proposal{net: api.Multi{Caps: slices.Repeat([]int{1000}, links)}, prices: slices.Repeat([]int{1000000}, links)}
					p.net.Flows = slices.Repeat([][][]int{slices.Repeat([][]int{path}, subs)}, flows)
					p.rates = slices.Repeat([][]int{slices.Repeat([]int{1000000}, subs)}, flows)
					compare(t, p)
				}
			}
		}
	}
}
