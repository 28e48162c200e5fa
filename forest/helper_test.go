package forest_test

import (
	"math/rand"
	"slices"
	"testing"

	"fiducial/api"
	"fiducial/forest"
)

// load is the greatest magnitude of a weight.
const load = 1 << 30

// graph is a graph with links that are listed as A, B, W.
func graph(nodes int, links ...[3]int) api.Weighted {
	g := api.Weighted{Nodes: nodes}
	for _, l := range links {
		g.Links = append(g.Links, api.Link{A: l[0], B: l[1], W: l[2]})
	}
	return g
}

// example is the graph of the chapter; the links 1 and 2 have other weights there, too.
func example(w1, w2 int) api.Weighted {
	return graph(4, [3]int{0, 1, 2}, [3]int{1, 2, w1}, [3]int{2, 0, w2}, [3]int{2, 3, 5})
}

// every calls check with all graphs with so many nodes and links whose weights are from a list.
func every(nodes, links int, weights []int, check func(g api.Weighted)) {
	g := api.Weighted{Nodes: nodes, Links: make([]api.Link, links)}
	var fill func(k int)
	fill = func(k int) {
		if k == links {
			check(g)
			return
		}
		for a := range nodes {
			for b := range nodes {
				for _, w := range weights {
					g.Links[k] = api.Link{A: a, B: b, W: w}
					fill(k + 1)
				}
			}
		}
	}
	fill(0)
}

// some calls check many times.
func some(rounds int, check func(r *rand.Rand)) {
	r := rand.New(rand.NewSource(11))
	for range rounds {
		check(r)
	}
}

// random returns a graph with nodes and links up to these numbers, some of them loops and double ones; its weights are from low to high.
func random(r *rand.Rand, nodes, links, low, high int) api.Weighted {
	g := api.Weighted{Nodes: 1 + r.Intn(nodes)}
	for range r.Intn(links + 1) {
		l := api.Link{A: r.Intn(g.Nodes), B: r.Intn(g.Nodes), W: low + r.Intn(high-low+1)}
		if len(g.Links) > 0 && r.Intn(5) == 0 {
			l.A, l.B = g.Links[0].B, g.Links[0].A
		}
		g.Links = append(g.Links, l)
	}
	return g
}

// large returns a graph with 256 nodes and 1024 links, in which most nodes are connected.
func large(r *rand.Rand, low, high int) api.Weighted {
	g := api.Weighted{Nodes: 256}
	for range 1024 {
		g.Links = append(g.Links, api.Link{A: r.Intn(256), B: r.Intn(256), W: low + r.Intn(high-low+1)})
	}
	return g
}

// chain returns a graph of 256 nodes in a row, whose links stand in the list from the last node to the first.
func chain(w int) api.Weighted {
	g := api.Weighted{Nodes: 256}
	for k := 255; k > 0; k-- {
		g.Links = append(g.Links, api.Link{A: k - 1, B: k, W: w})
	}
	return g
}

// connected is, for each two nodes, whether some links connect them in both directions: the closure of the relation of being joined.
func connected(g api.Weighted, links []int) [][]bool {
	c := make([][]bool, g.Nodes)
	for k := range c {
		c[k] = make([]bool, g.Nodes)
		c[k][k] = true
	}
	for _, k := range links {
		c[g.Links[k].A][g.Links[k].B], c[g.Links[k].B][g.Links[k].A] = true, true
	}
	for m := range c {
		for a := range c {
			for b := range c {
				c[a][b] = c[a][b] || c[a][m] && c[m][b]
			}
		}
	}
	return c
}

// all is the list of all links.
func all(g api.Weighted) []int {
	var l []int
	for k := range g.Links {
		l = append(l, k)
	}
	return l
}

// isForest is the definition of a forest.
func isForest(g api.Weighted, links []int) bool {
	for i, k := range links {
		others := slices.Delete(slices.Clone(links), i, i+1)
		if l := g.Links[k]; connected(g, others)[l.A][l.B] {
			return false
		}
	}
	return true
}

// isSpanning is the definition of what makes a forest spanning.
func isSpanning(g api.Weighted, links []int) bool {
	want := connected(g, all(g))
	return slices.EqualFunc(connected(g, links), want, slices.Equal[[]bool])
}

// subsets are all ascending lists of links.
func subsets(g api.Weighted) [][]int {
	var lists [][]int
	for set := range 1 << len(g.Links) {
		var l []int
		for k := range g.Links {
			if set>>k&1 == 1 {
				l = append(l, k)
			}
		}
		lists = append(lists, l)
	}
	return lists
}

// weightOf is the sum of the weights of some links.
func weightOf(g api.Weighted, links []int) int {
	sum := 0
	for _, k := range links {
		sum += g.Links[k].W
	}
	return sum
}

// same fails the test if g has been changed.
func same(t *testing.T, what string, g, before api.Weighted) {
	t.Helper()
	if g.Nodes != before.Nodes || !slices.Equal(g.Links, before.Links) {
		t.Fatalf("%s has changed %v to %v", what, before, g)
	}
}

// copied is a copy of g.
func copied(g api.Weighted) api.Weighted {
	g.Links = slices.Clone(g.Links)
	return g
}

// isWalk reports whether directed links lead from a to b.
func isWalk(g api.Weighted, links []int, a, b int) bool {
	for _, k := range links {
		if g.Links[k].A != a {
			return false
		}
		a = g.Links[k].B
	}
	return a == b
}

// rounds calls check with all directed walks of at least one link from a node to itself that pass no node twice.
func rounds(g api.Weighted, check func(links []int)) {
	for start := range g.Nodes {
		passed := make([]bool, g.Nodes)
		var extend func(links []int, node int)
		extend = func(links []int, node int) {
			if len(links) > 0 && node == start {
				check(links)
				return
			}
			if passed[node] {
				return
			}
			passed[node] = true
			for k, l := range g.Links {
				if l.A == node {
					extend(append(links, k), l.B)
				}
			}
			passed[node] = false
		}
		extend(nil, start)
	}
}

// isLightRound reports whether links are a directed walk from a node to itself with a weight below 0 that passes no node twice.
func isLightRound(g api.Weighted, links []int) bool {
	passed := map[int]bool{}
	for _, k := range links {
		if passed[g.Links[k].A] {
			return false
		}
		passed[g.Links[k].A] = true
	}
	return len(links) > 0 && isWalk(g, links, g.Links[links[0]].A, g.Links[links[0]].A) && weightOf(g, links) < 0
}

// mustTree returns what Tree returns.
func mustTree(t *testing.T, g api.Weighted) []int {
	t.Helper()
	tree, code := forest.Tree(g)
	if code != api.OK {
		t.Fatalf("Tree(%v): %d", g, code)
	}
	return tree
}
