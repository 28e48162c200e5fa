package forest

import (
	"slices"

	"fiducial/api"
)

// A step is a link that is passed in one of both directions: k + 1 if the link k is passed from A to B, otherwise -(k + 1).

// forwards returns the step along the link k from A to B.
func forwards(k int) int {
	return k + 1
}

// backwards returns the step along the link k from B to A.
func backwards(k int) int {
	return -(k + 1)
}

// linkOf returns the link of a step.
func linkOf(step int) int {
	return max(step, -step) - 1
}

// ways are the steps along the links of a forest, by the nodes where they begin.
type ways struct {
	links []api.Link
	from  [][]int
}

// waysOf returns the steps along the links of a forest.
func waysOf(g api.Weighted, tree []int) ways {
	w := ways{g.Links, make([][]int, g.Nodes)}
	for _, k := range tree {
		l := g.Links[k]
		w.from[l.A] = append(w.from[l.A], forwards(k))
		w.from[l.B] = append(w.from[l.B], backwards(k))
	}
	return w
}

// end returns the node where a step ends.
func (w ways) end(step int) int {
	if step > 0 {
		return w.links[linkOf(step)].B
	}
	return w.links[linkOf(step)].A
}

// walk returns the steps of the walk from a to b without repeated nodes, and whether there is one.
func (w ways) walk(a, b int) ([]int, bool) {
	// The step by which each node was reached first, 0 for none.
	last := make([]int, len(w.from))
	queue := []int{a}
search:
	for len(queue) > 0 && a != b {
		node := queue[0]
		queue = queue[1:]
		for _, s := range w.from[node] {
			if s == -last[node] {
				continue
			}
			next := w.end(s)
			last[next] = s
			if next == b {
				break search
			}
			queue = append(queue, next)
		}
	}
	if a != b && last[b] == 0 {
		return nil, false
	}
	var steps []int
	for node := b; node != a; node = w.end(-last[node]) {
		steps = append(steps, last[node])
	}
	slices.Reverse(steps)
	return steps, true
}
