package forest

import (
	"slices"

	"fiducial/api"
)

// Shortest returns the least weight of a walk along directed links from a node to each node, and which nodes can be reached.
func Shortest(g api.Weighted, from int) ([]int, []bool, api.Code) {
	if code := Check(g); code != api.OK {
		return nil, nil, code
	}
	if !isNode(g, from) {
		return nil, nil, api.ErrRange
	}
	d := distancesOf(g, from)
	if d.settle() >= 0 {
		return nil, nil, api.ErrState
	}
	return d.least, d.reached, api.OK
}

// Negative returns the links of a directed cycle whose weights have a sum below 0.
func Negative(g api.Weighted) ([]int, api.Code) {
	if code := Check(g); code != api.OK {
		return nil, code
	}
	d := distancesOf(g, everyNode(g)...)
	node := d.settle()
	if node < 0 {
		return nil, api.ErrMissing
	}
	return d.cycleBefore(node), api.OK
}

// CheckCycle returns OK if links are a directed cycle whose weights have a sum below 0.
func CheckCycle(g api.Weighted, links []int) api.Code {
	if code := Check(g); code != api.OK {
		return code
	}
	switch {
	case len(links) > MaxLinks:
		return api.ErrLimit
	case !areLinks(g, links):
		return api.ErrRange
	case !isRound(g, links) || weight(g, links) >= 0:
		return api.ErrProof
	}
	return api.OK
}

// Potentials returns the greatest potentials that are at most 0.
func Potentials(g api.Weighted) ([]int, api.Code) {
	if code := Check(g); code != api.OK {
		return nil, code
	}
	// The greatest potentials are the least weights of walks that begin anywhere.
	d := distancesOf(g, everyNode(g)...)
	if d.settle() >= 0 {
		return nil, api.ErrState
	}
	return d.least, api.OK
}

// CheckPotentials returns OK if p are potentials.
func CheckPotentials(g api.Weighted, p []int) api.Code {
	if code := Check(g); code != api.OK {
		return code
	}
	switch {
	case len(p) != g.Nodes:
		return api.ErrMismatch
	case slices.ContainsFunc(p, func(x int) bool { return !within(x, MaxLoad*MaxNodes) }):
		return api.ErrRange
	case slices.ContainsFunc(g.Links, func(l api.Link) bool { return p[l.B] > p[l.A]+l.W }):
		return api.ErrProof
	}
	return api.OK
}

// isRound reports whether some links are a walk of at least one link from a node to itself.
func isRound(g api.Weighted, links []int) bool {
	for i, k := range links {
		next := links[(i+1)%len(links)]
		if g.Links[k].B != g.Links[next].A {
			return false
		}
	}
	return len(links) > 0
}

// everyNode returns all nodes of g.
func everyNode(g api.Weighted) []int {
	nodes := make([]int, g.Nodes)
	for k := range nodes {
		nodes[k] = k
	}
	return nodes
}
