package parser

import "queuelab/api"

// maxAbove is how many nodes may be above one that is stripped.
const maxAbove = 10000

// Strip returns a tree without offsets; the zero node, if it is too deep.
func Strip(n api.Node) api.Node {
	stripped, ok := strip(n, 0)
	if !ok {
		return api.Node{}
	}
	return stripped
}

// strip strips a node below others. It gives up on one that is too deep, since a slice of nodes may contain itself.
func strip(n api.Node, above int) (api.Node, bool) {
	if above > maxAbove {
		return api.Node{}, false
	}
	var kids []api.Node
	for _, kid := range n.Kids {
		stripped, ok := strip(kid, above+1)
		if !ok {
			return api.Node{}, false
		}
		kids = append(kids, stripped)
	}
	n.At, n.Kids = 0, kids
	return n, true
}
