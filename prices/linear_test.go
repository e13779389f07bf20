package prices_test

import (
	"math/big"
	"slices"
	"testing"

	"queuelab/api"
)

func whole(n int) *big.Rat { return big.NewRat(int64(n), 1) }

// linear is a linear program of the simplex method: a row for each link, with a column for each path, one for each link, which stands for what is left of it, and the cap; and at last the row of what is gained. The basis names the column that each row solves for.
type linear struct {
	rows  [][]*big.Rat
	basis []int
}

// linearOf returns the program whose greatest gain is the greatest sum of Y / X over the flows, of all rates Y (not in millionths) that the links carry.
func linearOf(p proposal) linear {
	var paths [][]int
	var gains []*big.Rat
	for flow, list := range p.net.Flows {
		for _, path := range list {
			paths = append(paths, path)
			gains = append(gains, new(big.Rat).SetFrac(million, total(p.rates[flow])))
		}
	}
	l := linear{}
	links := len(p.net.Caps)
	for link, most := range p.net.Caps {
		row := zeros(len(paths) + links + 1)
		for i, path := range paths {
			if slices.Contains(path, link) {
				row[i] = whole(1)
			}
		}
		row[len(paths)+link], row[len(paths)+links] = whole(1), whole(most)
		l.rows, l.basis = append(l.rows, row), append(l.basis, len(paths)+link)
	}
	last := zeros(len(paths) + links + 1)
	for i, gain := range gains {
		last[i].Neg(gain)
	}
	l.rows = append(l.rows, last)
	return l
}

func zeros(count int) []*big.Rat {
	var list []*big.Rat
	for range count {
		list = append(list, new(big.Rat))
	}
	return list
}

// solve reaches the greatest gain; of several columns and rows it takes the first ones (Bland's rule), so that it comes to an end.
func (l linear) solve() {
	last := l.rows[len(l.basis)]
	for {
		column := slices.IndexFunc(last[:len(last)-1], func(x *big.Rat) bool { return x.Sign() < 0 })
		if column < 0 {
			return
		}
		l.turn(l.row(column), column)
	}
}

// row returns the one that stops a column first.
func (l linear) row(column int) int {
	best := -1
	var least *big.Rat
	for i := range l.basis {
		x := l.rows[i][column]
		if x.Sign() <= 0 {
			continue
		}
		ratio := new(big.Rat).Quo(l.rows[i][len(l.rows[i])-1], x)
		order := -1
		if best >= 0 {
			order = ratio.Cmp(least)
		}
		if order < 0 || order == 0 && l.basis[i] < l.basis[best] {
			best, least = i, ratio
		}
	}
	return best
}

// turn solves a row for a column, and takes it out of all other rows.
func (l linear) turn(row, column int) {
	divisor := new(big.Rat).Set(l.rows[row][column])
	for _, x := range l.rows[row] {
		x.Quo(x, divisor)
	}
	for i := range l.rows {
		factor := new(big.Rat).Set(l.rows[i][column])
		if i == row || factor.Sign() == 0 {
			continue
		}
		for j, x := range l.rows[i] {
			x.Sub(x, new(big.Rat).Mul(factor, l.rows[row][j]))
		}
	}
	l.basis[row] = column
}

// optimum is the greatest sum of Y / X, with what a link would add to it for each unit of its cap.
type optimum struct {
	sum    *big.Rat
	worths []*big.Rat
}

// best returns the optimum for the rates of a proposal, which are positive, after it has checked that this is one: rates that the links carry have this sum, and the worths, which pay for each path, prove that there is no greater one.
func best(t *testing.T, p proposal) optimum {
	t.Helper()
	l := linearOf(p)
	l.solve()
	last := l.rows[len(l.basis)]
	links := len(p.net.Caps)
	o := optimum{sum: last[len(last)-1], worths: last[len(last)-1-links : len(last)-1]}
	reached, proved := new(big.Rat), new(big.Rat)
	rates := zeros(len(last) - 1)
	for i, column := range l.basis {
		rates[column] = l.rows[i][len(last)-1]
	}
	for link, most := range p.net.Caps {
		load := new(big.Rat).Set(rates[len(last)-1-links+link])
		proved.Add(proved, new(big.Rat).Mul(o.worths[link], whole(most)))
		for k, s := range inOrder(p.net) {
			if slices.Contains(p.net.Flows[s.flow][s.at], link) {
				load.Add(load, rates[k])
			}
		}
		if load.Cmp(whole(most)) != 0 || o.worths[link].Sign() < 0 {
			t.Fatalf("%v: the link %d has the load %v, and is worth %v", p, link, load, o.worths[link])
		}
	}
	for k, s := range inOrder(p.net) {
		gain, worth := new(big.Rat).SetFrac(million, total(p.rates[s.flow])), new(big.Rat)
		for _, link := range p.net.Flows[s.flow][s.at] {
			worth.Add(worth, o.worths[link])
		}
		reached.Add(reached, new(big.Rat).Mul(gain, rates[k]))
		if rates[k].Sign() < 0 || worth.Cmp(gain) < 0 {
			t.Fatalf("%v: the path %v has the rate %v, and is worth %v", p, s, rates[k], worth)
		}
	}
	if reached.Cmp(o.sum) != 0 || proved.Cmp(o.sum) != 0 {
		t.Fatalf("%v: %v is reached, %v proved, %v found", p, reached, proved, o.sum)
	}
	return o
}

// inOrder returns all paths of a network, in their order.
func inOrder(n api.Multi) []sub {
	var list []sub
	for flow, paths := range n.Flows {
		for at := range paths {
			list = append(list, sub{flow, at})
		}
	}
	return list
}

// roundedUp returns the least number of millionths that is at least a value.
func roundedUp(x *big.Rat) int {
	scaled := new(big.Rat).Mul(x, new(big.Rat).SetInt(million))
	quotient, rest := new(big.Int).QuoRem(scaled.Num(), scaled.Denom(), new(big.Int))
	if rest.Sign() > 0 {
		quotient.Add(quotient, number(1))
	}
	return int(quotient.Int64())
}
