package forest

import (
	"slices"

	"fiducial/api"
)

// Check returns OK if g is a weighted graph.
func Check(g api.Weighted) api.Code {
	switch {
	case g.Nodes < 0:
		return api.ErrArgument
	case g.Nodes > MaxNodes || len(g.Links) > MaxLinks:
		return api.ErrLimit
	case slices.ContainsFunc(g.Links, func(l api.Link) bool { return !isNode(g, l.A) || !isNode(g, l.B) || !within(l.W, MaxLoad) }):
		return api.ErrRange
	}
	return api.OK
}

// isNode reports whether k is a node of g.
func isNode(g api.Weighted, k int) bool {
	return 0 <= k && k < g.Nodes
}

// within reports whether the magnitude of n is at most a limit.
func within(n, limit int) bool {
	return -limit <= n && n <= limit
}

// areLinks reports whether all elements of a list are indices of links of g.
func areLinks(g api.Weighted, list []int) bool {
	return !slices.ContainsFunc(list, func(k int) bool { return k < 0 || k >= len(g.Links) })
}

// checkForest returns the code for a graph and a forest in it.
func checkForest(g api.Weighted, tree []int) api.Code {
	if code := Check(g); code != api.OK {
		return code
	}
	switch {
	case !areLinks(g, tree):
		return api.ErrRange
	case !ascending(tree):
		return api.ErrOrder
	case len(withoutCycles(g, tree)) < len(tree):
		return api.ErrState
	}
	return api.OK
}

// ascending reports whether a list is strictly ascending.
func ascending(list []int) bool {
	for i := range list {
		if i > 0 && list[i-1] >= list[i] {
			return false
		}
	}
	return true
}
