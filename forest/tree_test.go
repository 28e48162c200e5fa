package forest_test

import (
	"math/rand"
	"slices"
	"testing"

	"fiducial/api"
	"fiducial/forest"
)

// P11.1: components are numbered by their least nodes.
func TestClasses(t *testing.T) {
	check := func(g api.Weighted) {
		before := copied(g)
		got, code := forest.Classes(g)
		same(t, "Classes", g, before)
		if code != api.OK || len(got) != g.Nodes {
			t.Fatalf("Classes(%v) = %v, %d", g, got, code)
		}
		next := 0
		c := connected(g, all(g))
		for k := range got {
			want := next
			if first := slices.Index(c[k], true); first < k {
				want = got[first]
			} else {
				next++
			}
			if got[k] != want {
				t.Fatalf("Classes(%v) = %v, %d is not in the class %d", g, got, k, want)
			}
		}
	}
	every(3, 3, []int{1}, check)
	every(4, 2, []int{-7}, check)
	some(3000, func(r *rand.Rand) { check(random(r, 12, 14, -3, 3)) })
	for n := range 4 {
		check(graph(n))
	}
	check(graph(256))
	check(chain(1))
	some(3, func(r *rand.Rand) { check(large(r, 0, 9)) })
}

// P11.1: directions do not matter, and numbers are given in the order of the nodes, not of the links.
func TestClassesExamples(t *testing.T) {
	for _, c := range []struct {
		g    api.Weighted
		want []int
	}{
		{graph(0), nil},
		{graph(1, [3]int{0, 0, 5}), []int{0}},
		{graph(5, [3]int{4, 3, 0}, [3]int{2, 0, 0}), []int{0, 1, 0, 2, 2}},
		{graph(5, [3]int{4, 1, 0}, [3]int{3, 1, 0}, [3]int{1, 3, 0}), []int{0, 1, 2, 1, 1}},
		{graph(4, [3]int{3, 2, 0}, [3]int{2, 1, 0}, [3]int{1, 0, 0}), []int{0, 0, 0, 0}},
		{example(1, 2), []int{0, 0, 0, 0}},
	} {
		if got, code := forest.Classes(c.g); code != api.OK || !slices.Equal(got, c.want) {
			t.Errorf("Classes(%v) = %v, %d, want %v", c.g, got, code, c.want)
		}
	}
}

// P11.2, P11.3: of all sets of links Tree has the least forest, and CheckTree takes the lightest spanning ones.
func TestTree(t *testing.T) {
	check := func(g api.Weighted) {
		var best []int
		found := false
		codes := map[string]api.Code{}
		for _, l := range subsets(g) {
			switch {
			case !isForest(g, l):
				codes[key(l)] = api.ErrState
			case !isSpanning(g, l):
				codes[key(l)] = api.ErrMissing
			case !found || weightOf(g, l) < weightOf(g, best) || weightOf(g, l) == weightOf(g, best) && slices.Compare(l, best) < 0:
				best, found = l, true
			}
		}
		before := copied(g)
		if got := mustTree(t, g); !slices.Equal(got, best) {
			t.Fatalf("Tree(%v) = %v, want %v", g, got, best)
		}
		for _, l := range subsets(g) {
			want, bad := codes[key(l)]
			if !bad && weightOf(g, l) > weightOf(g, best) {
				want = api.ErrProof
			}
			if code := forest.CheckTree(g, l); code != want {
				t.Fatalf("CheckTree(%v, %v): %d, want %d", g, l, code, want)
			}
		}
		same(t, "Tree", g, before)
	}
	every(3, 3, []int{0, 1}, check)
	every(2, 4, []int{-1, 2}, check)
	some(1500, func(r *rand.Rand) { check(random(r, 5, 7, -1, 1)) })
	some(500, func(r *rand.Rand) { check(random(r, 5, 7, -load, load)) })
	some(100, func(r *rand.Rand) { check(random(r, 7, 9, 3, 4)) })
}

// key is a text for a list of small numbers.
func key(l []int) string {
	b := make([]byte, len(l))
	for i, n := range l {
		b[i] = byte(n)
	}
	return string(b)
}

// P11.2: the example, graphs without links, and choices among links of one weight.
func TestTreeExamples(t *testing.T) {
	for _, c := range []struct {
		g    api.Weighted
		want []int
	}{
		{example(1, 2), []int{0, 1, 3}},
		{example(1, 1), []int{1, 2, 3}},
		{graph(0), nil},
		{graph(256), nil},
		{graph(2, [3]int{0, 0, -load}, [3]int{1, 1, -1}), nil},
		{graph(2, [3]int{0, 1, 7}, [3]int{1, 0, 7}, [3]int{0, 1, 7}), []int{0}},
		{graph(2, [3]int{0, 1, 7}, [3]int{1, 0, -7}, [3]int{0, 1, -7}), []int{1}},
		{graph(3, [3]int{0, 1, 1}, [3]int{1, 2, 1}, [3]int{2, 0, 1}), []int{0, 1}},
		{graph(3, [3]int{0, 1, 2}, [3]int{1, 2, 2}, [3]int{2, 0, 1}), []int{0, 2}},
		{graph(3, [3]int{0, 1, load}, [3]int{1, 2, load}, [3]int{2, 0, load}, [3]int{1, 2, -load}), []int{0, 3}},
	} {
		if got, code := forest.Tree(c.g); code != api.OK || !slices.Equal(got, c.want) {
			t.Errorf("Tree(%v) = %v, %d, want %v", c.g, got, code, c.want)
		}
		if code := forest.CheckTree(c.g, c.want); code != api.OK {
			t.Errorf("CheckTree(%v, %v): %d", c.g, c.want, code)
		}
	}
	if code := forest.CheckTree(example(1, 2), []int{1, 2, 3}); code != api.OK {
		t.Errorf("another forest of the least weight: %d", code)
	}
	if code := forest.CheckTree(example(1, 2), []int{0, 2, 3}); code != api.ErrProof {
		t.Errorf("a forest that is too heavy: %d", code)
	}
}

// grown is the weight of the lightest spanning forest, found by growing trees from nodes.
func grown(g api.Weighted) int {
	sum := 0
	in := make([]bool, g.Nodes)
	for start := range in {
		in[start] = true
		for {
			best := -1
			for k, l := range g.Links {
				if in[l.A] != in[l.B] && (best < 0 || l.W < g.Links[best].W) {
					best = k
				}
			}
			if best < 0 {
				break
			}
			in[g.Links[best].A], in[g.Links[best].B] = true, true
			sum += g.Links[best].W
		}
	}
	return sum
}

// P11.2, P11.3: graphs with as many nodes, links and as great weights as there may be; no exchange of two links makes the list less.
func TestLargeTrees(t *testing.T) {
	some(6, func(r *rand.Rand) {
		for _, g := range []api.Weighted{large(r, -load, load), large(r, 0, 2), large(r, load, load), random(r, 256, 300, -load, load)} {
			tree := mustTree(t, g)
			if !slices.IsSorted(tree) || weightOf(g, tree) != grown(g) || forest.CheckTree(g, tree) != api.OK {
				t.Fatalf("Tree(%v) = %v", g, tree)
			}
			cycles, code := forest.Cycles(g, tree)
			if code != api.OK {
				t.Fatalf("Cycles: %d", code)
			}
			for _, c := range cycles {
				k := c[0] - 1
				for _, step := range c[1:] {
					other := max(step, -step) - 1
					if g.Links[other].W > g.Links[k].W || g.Links[other].W == g.Links[k].W && other > k {
						t.Fatalf("the link %d should be in the forest in place of %d", k, other)
					}
				}
				// The forest with the other link has the same weight or is heavier.
				other := max(c[len(c)-1], -c[len(c)-1]) - 1
				rival := slices.DeleteFunc(append(slices.Clone(tree), k), func(l int) bool { return l == other })
				slices.Sort(rival)
				want := api.ErrProof
				if g.Links[k].W == g.Links[other].W {
					want = api.OK
				}
				if r.Intn(20) == 0 && k != other && forest.CheckTree(g, rival) != want {
					t.Fatalf("CheckTree with %d in place of %d", k, other)
				}
			}
		}
	})
}

// walkOf is the walk in a forest without repeated nodes, found by going on from the first node; nil if there is none.
func walkOf(g api.Weighted, tree []int, from, came, to int) []int {
	if from == to {
		return []int{}
	}
	for _, k := range tree {
		l := g.Links[k]
		if k == came || l.A != from && l.B != from {
			continue
		}
		if rest := walkOf(g, tree, l.A+l.B-from, k, to); rest != nil {
			return slices.Concat([]int{k}, rest)
		}
	}
	return nil
}

// someForest returns a forest in g; some are spanning.
func someForest(r *rand.Rand, g api.Weighted) []int {
	h := copied(g)
	for k := range h.Links {
		h.Links[k].W = r.Intn(100)
	}
	tree, _ := forest.Tree(h)
	if r.Intn(2) == 0 {
		tree = slices.DeleteFunc(tree, func(int) bool { return r.Intn(6) == 0 })
	}
	return tree
}

// P11.4: paths between all nodes of a forest, and where there are none.
func TestPath(t *testing.T) {
	count := map[api.Code]int{}
	check := func(g api.Weighted, tree []int, a, b int) {
		before, list := copied(g), slices.Clone(tree)
		got, code := forest.Path(g, tree, a, b)
		same(t, "Path", g, before)
		want, wantCode := walkOf(g, tree, a, -1, b), api.OK
		if want == nil {
			wantCode = api.ErrMissing
		}
		if code != wantCode || !slices.Equal(got, want) || !slices.Equal(tree, list) {
			t.Fatalf("Path(%v, %v, %d, %d) = %v, %d, want %v", g, tree, a, b, got, code, want)
		}
		count[code]++
	}
	some(400, func(r *rand.Rand) {
		g := random(r, 9, 16, -5, 5)
		tree := someForest(r, g)
		for a := range g.Nodes {
			for b := range g.Nodes {
				check(g, tree, a, b)
			}
		}
	})
	some(20, func(r *rand.Rand) {
		g := large(r, 0, 9)
		tree := someForest(r, g)
		for range 20 {
			check(g, tree, r.Intn(256), r.Intn(256))
		}
	})
	g := chain(3)
	check(g, mustTree(t, g), 0, 255)
	check(g, mustTree(t, g), 255, 0)
	check(g, mustTree(t, g), 200, 100)
	if min(count[api.OK], count[api.ErrMissing]) < 1000 {
		t.Errorf("%v paths", count)
	}
}

// P11.4: the cycle of each link outside a spanning forest: the link, and the way back.
func TestCycles(t *testing.T) {
	closed := 0
	check := func(g api.Weighted, tree []int) {
		before := copied(g)
		got, code := forest.Cycles(g, tree)
		same(t, "Cycles", g, before)
		if !isSpanning(g, tree) {
			if code != api.ErrMissing || len(got) > 0 {
				t.Fatalf("Cycles(%v, %v) = %v, %d", g, tree, got, code)
			}
			return
		}
		if code != api.OK || len(got) != len(g.Links)-len(tree) {
			t.Fatalf("Cycles(%v, %v) = %v, %d", g, tree, got, code)
		}
		for k, l := range g.Links {
			if slices.Contains(tree, k) {
				continue
			}
			back, _ := forest.Path(g, tree, l.B, l.A)
			want := []int{k + 1}
			node := l.B
			for _, m := range back {
				if g.Links[m].A == node {
					want, node = append(want, m+1), g.Links[m].B
				} else {
					want, node = append(want, -(m+1)), g.Links[m].A
				}
			}
			if !slices.Equal(got[0], want) || node != l.A {
				t.Fatalf("Cycles(%v, %v): %v, want %v", g, tree, got[0], want)
			}
			balanced(t, g, got[0])
			got = got[1:]
			closed++
		}
	}
	some(3000, func(r *rand.Rand) {
		g := random(r, 7, 12, -5, 5)
		check(g, someForest(r, g))
	})
	some(4, func(r *rand.Rand) {
		g := large(r, 0, 9)
		check(g, mustTree(t, g))
	})
	check(graph(0), nil)
	check(graph(3), nil)
	if closed < 3000 {
		t.Errorf("only %d cycles", closed)
	}
}

// balanced fails the test if the steps of a cycle lead to some node more or less often than away from it.
func balanced(t *testing.T, g api.Weighted, cycle []int) {
	t.Helper()
	times := make([]int, g.Nodes)
	for _, step := range cycle {
		sign := 1
		if step < 0 {
			step, sign = -step, -1
		}
		times[g.Links[step-1].A] -= sign
		times[g.Links[step-1].B] += sign
	}
	if slices.ContainsFunc(times, func(n int) bool { return n != 0 }) {
		t.Fatalf("the cycle %v in %v: %v", cycle, g, times)
	}
}

// P11.4: the example, loops and double links; the first link is 0, so that signs need the 1.
func TestCycleExamples(t *testing.T) {
	for _, c := range []struct {
		g    api.Weighted
		tree []int
		want [][]int
	}{
		{example(1, 2), []int{0, 1, 3}, [][]int{{3, 1, 2}}},
		{example(1, 2), []int{1, 2, 3}, [][]int{{1, 2, 3}}},
		{graph(1, [3]int{0, 0, 1}, [3]int{0, 0, 2}), nil, [][]int{{1}, {2}}},
		{graph(2, [3]int{0, 1, 1}, [3]int{0, 1, 1}, [3]int{1, 0, 1}), []int{0}, [][]int{{2, -1}, {3, 1}}},
		{graph(2, [3]int{0, 1, 1}, [3]int{0, 1, 1}, [3]int{1, 0, 1}), []int{2}, [][]int{{1, 3}, {2, 3}}},
	} {
		got, code := forest.Cycles(c.g, c.tree)
		if code != api.OK || !slices.EqualFunc(got, c.want, slices.Equal[[]int]) {
			t.Errorf("Cycles(%v, %v) = %v, %d, want %v", c.g, c.tree, got, code, c.want)
		}
	}
	if path, code := forest.Path(example(1, 2), []int{0, 1, 3}, 3, 0); code != api.OK || !slices.Equal(path, []int{3, 1, 0}) {
		t.Errorf("Path = %v, %d", path, code)
	}
	if path, code := forest.Path(example(1, 2), nil, 2, 2); code != api.OK || len(path) > 0 {
		t.Errorf("Path from 2 to 2 = %v, %d", path, code)
	}
}
