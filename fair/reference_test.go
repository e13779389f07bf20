package fair_test

import (
	"iter"
	"math/big"
	"math/rand"
	"reflect"
	"slices"
	"testing"

	"queuelab/api"
	"queuelab/fair"
)

var (
	million  = big.NewInt(1000000)
	billion  = big.NewInt(1000000000)
	trillion = big.NewInt(1000000000000)
)

func number(n int) *big.Int { return big.NewInt(int64(n)) }

func product(list ...*big.Int) *big.Int {
	p := number(1)
	for _, n := range list {
		p.Mul(p, n)
	}
	return p
}

func total(list []*big.Int) *big.Int {
	sum := new(big.Int)
	for _, n := range list {
		sum.Add(sum, n)
	}
	return sum
}

// down returns a quotient of numbers that are not negative, rounded down.
func down(a, b *big.Int) *big.Int { return new(big.Int).Quo(a, b) }

// up returns a quotient, rounded up.
func up(a, b *big.Int) *big.Int {
	q, rest := new(big.Int).QuoRem(a, b, new(big.Int))
	if rest.Sign() > 0 {
		q.Add(q, number(1))
	}
	return q
}

func least(list []*big.Int) *big.Int { return slices.MinFunc(list, (*big.Int).Cmp) }

func numbers(list []int) []*big.Int {
	var result []*big.Int
	for _, n := range list {
		result = append(result, number(n))
	}
	return result
}

func ints(list []*big.Int) []int {
	var result []int
	for _, n := range list {
		result = append(result, int(n.Int64()))
	}
	return result
}

// pick returns the numbers at some places.
func pick(list []*big.Int, places []int) []*big.Int {
	var result []*big.Int
	for _, i := range places {
		result = append(result, list[i])
	}
	return result
}

// through returns the flows with a link.
func through(n api.Net, link int) []int {
	var flows []int
	for flow, links := range n.Flows {
		if slices.Contains(links, link) {
			flows = append(flows, flow)
		}
	}
	return flows
}

func isOutside(least, most int) func(int) bool {
	return func(n int) bool { return n < least || n > most }
}

// canBeSolved is the definition, word for word.
func canBeSolved(n api.Net) bool {
	if len(n.Caps) < 1 || len(n.Caps) > 8 || slices.ContainsFunc(n.Caps, isOutside(0, 1000)) || len(n.Flows) < 1 || len(n.Flows) > 8 {
		return false
	}
	for _, links := range n.Flows {
		ordered := slices.Clone(links)
		slices.Sort(ordered)
		ordered = slices.Compact(ordered)
		if len(links) < 1 || len(links) > 6 || slices.ContainsFunc(links, isOutside(0, len(n.Caps)-1)) || !slices.Equal(links, ordered) {
			return false
		}
	}
	return len(n.Limits) == len(n.Flows) && !slices.ContainsFunc(n.Limits, isOutside(0, 0))
}

func hasEmptyUsedLink(n api.Net) bool {
	for link, most := range n.Caps {
		if most == 0 && len(through(n, link)) > 0 {
			return true
		}
	}
	return false
}

// wantedErr is that of O1.
func wantedErr(n api.Net, rounds int) api.Errno {
	switch {
	case !canBeSolved(n) || rounds < 0 || rounds > 1000:
		return api.ErrArg
	case hasEmptyUsedLink(n):
		return api.ErrNone
	}
	return api.OK
}

// weighed is a network with weights, and what the definition computes from them: the weights of flows, their shares, and the loads of links.
type weighed struct {
	net     api.Net
	w, q, r []*big.Int
	d       []*big.Int
}

func weigh(n api.Net, weights []int) weighed {
	m := weighed{net: n, w: numbers(weights)}
	for _, links := range n.Flows {
		q := total(pick(m.w, links))
		m.q, m.r = append(m.q, q), append(m.r, down(billion, q))
	}
	for link := range n.Caps {
		m.d = append(m.d, total(pick(m.r, through(n, link))))
	}
	return m
}

// rates are the numbers X.
func (m weighed) rates() []*big.Int {
	var x []*big.Int
	for flow, links := range m.net.Flows {
		var list []*big.Int
		for _, link := range links {
			list = append(list, down(product(m.r[flow], number(m.net.Caps[link]), million), m.d[link]))
		}
		x = append(x, least(list))
	}
	return x
}

// cert returns the certificate of the weights.
func (m weighed) cert() (api.Cert, bool) {
	x := m.rates()
	var worths, list []*big.Int
	for flow := range x {
		worths = append(worths, product(m.q[flow], x[flow]))
	}
	p := least(worths)
	if p.Sign() == 0 {
		return api.Cert{}, false
	}
	for _, w := range m.w {
		price := up(product(w, trillion), p)
		if price.Cmp(trillion) > 0 {
			return api.Cert{}, false
		}
		list = append(list, price)
	}
	gap := leastGap(m.net, x, list)
	if gap == nil || gap.Cmp(trillion) > 0 {
		return api.Cert{}, false
	}
	return api.Cert{Rates: each(ints(x)...), Prices: ints(list), Gap: int(gap.Int64())}, true
}

// leastGap is that of layer 14, if rates and prices are sound.
func leastGap(n api.Net, x, list []*big.Int) *big.Int {
	for link, most := range n.Caps {
		if total(pick(x, through(n, link))).Cmp(product(million, number(most))) > 0 {
			return nil
		}
	}
	for flow, links := range n.Flows {
		if x[flow].Sign() < 1 || product(total(pick(list, links)), x[flow]).Cmp(trillion) < 0 {
			return nil
		}
	}
	cost := new(big.Int)
	for link, most := range n.Caps {
		cost.Add(cost, product(list[link], number(most)))
	}
	return cost.Sub(cost, product(million, number(len(n.Flows))))
}

// fullest returns the first used link for which D / cap is greatest.
func (m weighed) fullest() int {
	best, most := -1, new(big.Rat)
	for link, load := range m.d {
		if m.w[link].Sign() == 0 {
			continue
		}
		if full := new(big.Rat).SetFrac(load, number(m.net.Caps[link])); best < 0 || full.Cmp(most) > 0 {
			best, most = link, full
		}
	}
	return best
}

// next returns the next weights.
func (m weighed) next() []int {
	first := m.fullest()
	mostCap, mostLoad := number(m.net.Caps[first]), m.d[first]
	var weights []int
	for link, w := range m.w {
		if w.Sign() == 0 {
			weights = append(weights, 0)
			continue
		}
		own := number(m.net.Caps[link])
		both := total([]*big.Int{product(m.d[link], mostCap), product(own, mostLoad)})
		weights = append(weights, max(1, int(down(product(w, both), product(number(2), own, mostLoad)).Int64())))
	}
	if !slices.ContainsFunc(weights, isOutside(0, 49999)) {
		for link := range weights {
			weights[link] *= 2
		}
	}
	return weights
}

// firstWeights are those of the round 0.
func firstWeights(n api.Net) []int {
	weights := make([]int, len(n.Caps))
	for link := range weights {
		if len(through(n, link)) > 0 {
			weights[link] = 1000
		}
	}
	return weights
}

// wanted returns, for each number of rounds up to a given one, the first certificate with the least gap.
func wanted(t *testing.T, n api.Net, rounds int) []api.Cert {
	t.Helper()
	var list []api.Cert
	weights := firstWeights(n)
	for i := range rounds + 1 {
		m := weigh(n, weights)
		c, exists := m.cert()
		if i == 0 && !exists {
			t.Fatalf("%v: there is no certificate in the round 0", n)
		}
		if i > 0 && (!exists || c.Gap >= list[i-1].Gap) {
			c = list[i-1]
		}
		list = append(list, c)
		weights = m.next()
	}
	return list
}

// compare checks Solve for some numbers of rounds, of which the last one is the greatest.
func compare(t *testing.T, n api.Net, rounds ...int) {
	t.Helper()
	var want []api.Cert
	if wantedErr(n, 0) == api.OK {
		want = wanted(t, n, rounds[len(rounds)-1])
	}
	for _, r := range rounds {
		c, err := fair.Solve(n, r)
		var right api.Cert
		if want != nil {
			right = want[r]
		}
		if err != wantedErr(n, r) || !reflect.DeepEqual(c, right) {
			t.Fatalf("Solve %v, %d rounds: %v, %v; want %v, %v", n, r, c, err, right, wantedErr(n, r))
		}
	}
}

// maker makes networks.
type maker struct{ *rand.Rand }

// makers yields so many networks that have a certificate, with one that makes more.
func makers(seed int64, count int) iter.Seq2[maker, api.Net] {
	return func(yield func(maker, api.Net) bool) {
		m := maker{rand.New(rand.NewSource(seed))}
		for range count {
			if !yield(m, m.net()) {
				return
			}
		}
	}
}

// net returns a network of any size, in which only links that are not used may have the cap 0.
func (m maker) net() api.Net {
	caps := make([]int, 1+m.Intn(8))
	most := []int{1, 2, 10, 100, 1000}[m.Intn(5)]
	for i := range caps {
		caps[i] = 1 + m.Intn(most)
		if m.Intn(8) == 0 {
			caps[i] = []int{0, 1, 1000}[m.Intn(3)]
		}
	}
	hops := 1 + m.Intn(6)
	var flows [][]int
	for range 1 + m.Intn(8) {
		flows = append(flows, m.links(len(caps), hops))
	}
	n := net(caps, flows...)
	for link := range caps {
		if caps[link] == 0 && len(through(n, link)) > 0 {
			caps[link] = 1 + m.Intn(most)
		}
	}
	return n
}

// links returns some of so many links, but at most hops.
func (m maker) links(count, hops int) []int {
	list := m.Perm(count)[:1+m.Intn(min(count, hops))]
	slices.Sort(list)
	return list
}

// weights returns any, of used links only; some are far apart, others near the number below which they are doubled.
func (m maker) weights(n api.Net) []int {
	weights := firstWeights(n)
	kind := m.Intn(3)
	for link := range weights {
		if weights[link] == 0 {
			continue
		}
		switch kind {
		case 0:
			weights[link] = 1 + m.Intn([]int{1, 10, 1000, 50000, 100000}[m.Intn(5)])
		case 1:
			weights[link] = []int{1, 2, 99999, 100000}[m.Intn(4)]
		case 2:
			weights[link] = 49995 + m.Intn(10)
		}
	}
	return weights
}

// broken returns a network that differs in one number or one list.
func (m maker) broken(n api.Net) api.Net {
	c := copied(n)
	step := []int{-1, 1, -2, 2, -1000, 1000, 1001, 1000000000000}[m.Intn(8)]
	link, flow := m.Intn(len(c.Caps)), m.Intn(len(c.Flows))
	links := c.Flows[flow]
	switch m.Intn(9) {
	case 0:
		c.Caps[link] += step
	case 1:
		c.Caps[link] = 0
	case 2:
		c.Caps = c.Caps[:link]
	case 3:
		c.Flows = c.Flows[:flow]
	case 4:
		c.Limits = c.Limits[:flow]
	case 5:
		c.Limits = append(c.Limits, 0)
	case 6:
		c.Limits[flow] = step
	case 7:
		c.Flows[flow] = append(links, m.Intn(9))
	case 8:
		links[m.Intn(len(links))] += m.Intn(17) - 8
	}
	return c
}

// P15.1: O1, many networks of all sizes with few rounds.
func TestManyNets(t *testing.T) {
	for m, n := range makers(1501, 4000) {
		compare(t, n, 0, 1, 2, 3, 5, 10+m.Intn(20))
	}
}

// P15.1: O1, networks with many rounds, up to the greatest number of them.
func TestManyRounds(t *testing.T) {
	for m, n := range makers(1502, 150) {
		compare(t, n, 0, m.Intn(100), 100+m.Intn(400), 500+m.Intn(500), 999, 1000)
	}
}

// P15.1: O1, networks of two links with all small caps, all lists of up to three flows, and each number of rounds up to 12.
func TestSmallNets(t *testing.T) {
	lists := [][]int{{0}, {1}, {0, 1}}
	for a := range 4 {
		for b := range 4 {
			for count := range 40 {
				var flows [][]int
				for code := count; code > 0; code = (code - 1) / 3 {
					flows = append(flows, lists[(code-1)%3])
				}
				compare(t, net([]int{a, b}, flows...), 0, 1, 2, 3, 4, 5, 6, 7, 8, 9, 10, 11, 12)
			}
		}
	}
}

// compareWeights checks the certificate of weights and the next ones, which are weights, too. It reports whether there is a certificate.
func compareWeights(t *testing.T, n api.Net, weights []int) bool {
	t.Helper()
	m := weigh(n, weights)
	want, wantExists := m.cert()
	if c, exists := fair.CertOf(n, weights); exists != wantExists || !reflect.DeepEqual(c, want) {
		t.Fatalf("%v with the weights %v: %v, %v; want %v, %v", n, weights, c, exists, want, wantExists)
	}
	next := fair.NextOf(n, weights)
	if !slices.Equal(next, m.next()) {
		t.Fatalf("%v with the weights %v: %v follow; want %v", n, weights, next, m.next())
	}
	for link := range next {
		if next[link] > 100000 || (next[link] < 1) != (weights[link] == 0) {
			t.Fatalf("%v with the weights %v: %v follow", n, weights, next)
		}
	}
	return wantExists
}

// P15.1: the certificates of any weights, and the next ones.
func TestAnyWeights(t *testing.T) {
	certs, none := 0, 0
	for m, n := range makers(1503, 30000) {
		if compareWeights(t, n, m.weights(n)) {
			certs++
		} else {
			none++
		}
	}
	if certs < 10000 || none < 500 {
		t.Errorf("%d certificates, none %d times", certs, none)
	}
}

// P15.1: O1, networks that differ in one number or list; some of them cannot be solved.
func TestBrokenNets(t *testing.T) {
	count := map[api.Errno]int{}
	for m, n := range makers(1504, 20000) {
		c := m.broken(n)
		compare(t, c, 0, 3)
		count[wantedErr(c, 0)]++
	}
	for _, err := range []api.Errno{api.OK, api.ErrArg, api.ErrNone} {
		if count[err] < 1000 {
			t.Errorf("%v: %d networks", err, count[err])
		}
	}
}

// P15.1: O1, all numbers of links, flows and hops.
func TestAllSizes(t *testing.T) {
	for links := range 11 {
		for flows := range 11 {
			for hops := range 9 {
				list := make([]int, hops)
				for i := range list {
					list[i] = i
				}
				compare(t, net(slices.Repeat([]int{1000}, links), slices.Repeat([][]int{list}, flows)...), 0, 2)
			}
		}
	}
}
