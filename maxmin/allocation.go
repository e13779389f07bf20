package maxmin

import (
	"queuelab/api"
	"queuelab/ratio"
)

// allocation is a valid network with rates of it.
type allocation struct {
	net   api.Net
	rates []api.Ratio
}

func (a allocation) isPossible() bool {
	for link, most := range a.net.Caps {
		if load, exists := a.load(link); !exists || isMore(load, whole(most)) {
			return false
		}
	}
	for flow, limit := range a.net.Limits {
		if limit > 0 && isMore(a.rates[flow], whole(limit)) {
			return false
		}
	}
	return true
}

// load returns the sum of the rates on a link, if there are ratios for it and on the way to it. If there are not, the rates are not the max-min fair ones, whose sums have denominators up to 18.
func (a allocation) load(link int) (api.Ratio, bool) {
	sum := whole(0)
	for i := range through(a.net, link) {
		next, err := ratio.Add(sum, a.rates[i])
		if err != api.OK {
			return api.Ratio{}, false
		}
		sum = next
	}
	return sum, true
}

// stopsAll reports whether each flow has its limit, or a full link on which no flow has a greater rate.
func (a allocation) stopsAll() bool {
	for flow, limit := range a.net.Limits {
		if limit > 0 && a.rates[flow] == whole(limit) {
			continue
		}
		if !a.hasStop(flow) {
			return false
		}
	}
	return true
}

func (a allocation) hasStop(flow int) bool {
	for _, link := range a.net.Flows[flow] {
		if a.isFull(link) && a.isGreatest(flow, link) {
			return true
		}
	}
	return false
}

func (a allocation) isFull(link int) bool {
	load, _ := a.load(link)
	return load == whole(a.net.Caps[link])
}

func (a allocation) isGreatest(flow, link int) bool {
	for i := range through(a.net, link) {
		if isMore(a.rates[i], a.rates[flow]) {
			return false
		}
	}
	return true
}

func isMore(a, b api.Ratio) bool {
	order, _ := ratio.Cmp(a, b)
	return order > 0
}
