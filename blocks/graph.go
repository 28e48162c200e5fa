package blocks

import (
	"math/bits"

	"fiducial/api"
)

// graph is what is left of the graph of a system: for each node the set of its neighbours, a bit for each of them.
type graph []uint

// graphOf returns the graph of a valid system.
func graphOf(s api.System) graph {
	g := make(graph, len(s.Sizes))
	for _, b := range s.Blocks {
		if b.Col < b.Row {
			g[b.Row] |= 1 << b.Col
			g[b.Col] |= 1 << b.Row
		}
	}
	return g
}

// everyone returns the set of n nodes.
func everyone(n int) uint {
	return 1<<n - 1
}

// eliminate makes the neighbours of the node k neighbours of one another, and removes the node. It returns the pairs that have become neighbours.
func (g graph) eliminate(k int) [][2]int {
	var pairs [][2]int
	near := g[k]
	for i := range g {
		if near>>i&1 == 0 {
			continue
		}
		fresh := near &^ g[i]
		for j := i + 1; j < len(g); j++ {
			if fresh>>j&1 == 1 {
				pairs = append(pairs, [2]int{i, j})
			}
		}
		g[i] = (g[i] | near) &^ (1<<i | 1<<k)
	}
	g[k] = 0
	return pairs
}

// least returns the node with the fewest neighbours among those of a set, of several the least one.
func (g graph) least(set uint) int {
	best := -1
	for k, near := range g {
		if set>>k&1 == 1 && (best < 0 || bits.OnesCount(near) < bits.OnesCount(g[best])) {
			best = k
		}
	}
	return best
}
