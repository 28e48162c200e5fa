package forest

import (
	"slices"

	"fiducial/api"
)

// distances are the least weights of walks to each node that have been found so far, with the last links of these walks.
type distances struct {
	links   []api.Link
	least   []int
	reached []bool
	last    []int
}

// distancesOf returns the distances before any link is passed: some nodes are reached by walks without links.
func distancesOf(g api.Weighted, from ...int) distances {
	d := distances{g.Links, make([]int, g.Nodes), make([]bool, g.Nodes), make([]int, g.Nodes)}
	for _, k := range from {
		d.reached[k] = true
	}
	return d
}

// settle finds the least weights and returns -1; but if a cycle with a weight below 0 can be reached, it returns a node to which walks became lighter in each round.
func (d distances) settle() int {
	node := -1
	for range d.least {
		node = d.round()
		if node < 0 {
			break
		}
	}
	// Without such a cycle the lightest walks pass no node twice, so that the last round found nothing new.
	return node
}

// round makes walks lighter by each link once, and returns the last node for which it did, or -1.
func (d distances) round() int {
	node := -1
	for k, l := range d.links {
		weight := d.least[l.A] + l.W
		if d.reached[l.A] && (!d.reached[l.B] || weight < d.least[l.B]) {
			d.least[l.B], d.reached[l.B], d.last[l.B] = weight, true, k
			node = l.B
		}
	}
	return node
}

// cycleBefore returns the links of a cycle with a weight below 0, from which last links lead to a node that settle has returned.
func (d distances) cycleBefore(node int) []int {
	// If the last link to a node was set in a round, that to the node before it was set in the round before or later. So there are enough last links to pass some node twice.
	for range d.least {
		node = d.links[d.last[node]].A
	}
	var cycle []int
	for k := d.last[node]; len(cycle) == 0 || k != cycle[0]; k = d.last[d.links[k].A] {
		cycle = append(cycle, k)
	}
	slices.Reverse(cycle)
	return cycle
}
