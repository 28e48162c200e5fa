package forest_test

import (
	"math/rand"
	"slices"
	"testing"

	"fiducial/api"
	"fiducial/forest"
)

// lightestWalks are, for each node, the least weight of a directed walk to it from a node that passes no node twice, and whether there is one.
func lightestWalks(g api.Weighted, from int) ([]int, []bool) {
	least, reached := make([]int, g.Nodes), make([]bool, g.Nodes)
	passed := make([]bool, g.Nodes)
	var extend func(node, weight int)
	extend = func(node, weight int) {
		if passed[node] {
			return
		}
		if !reached[node] || weight < least[node] {
			least[node], reached[node] = weight, true
		}
		passed[node] = true
		for _, l := range g.Links {
			if l.A == node {
				extend(l.B, weight+l.W)
			}
		}
		passed[node] = false
	}
	extend(from, 0)
	return least, reached
}

// P11.5: distances from each node, and ErrState exactly if a cycle with a weight below 0 can be reached.
func TestShortest(t *testing.T) {
	count := map[api.Code]int{}
	check := func(g api.Weighted) {
		before := copied(g)
		for from := range g.Nodes {
			least, reached := lightestWalks(g, from)
			want := api.OK
			rounds(g, func(links []int) {
				if weightOf(g, links) < 0 && reached[g.Links[links[0]].A] {
					want = api.ErrState
				}
			})
			if want != api.OK {
				least, reached = nil, nil
			}
			got, which, code := forest.Shortest(g, from)
			if code != want || !slices.Equal(got, least) || !slices.Equal(which, reached) {
				t.Fatalf("Shortest(%v, %d) = %v, %v, %d, want %v, %v, %d", g, from, got, which, code, least, reached, want)
			}
			count[code]++
		}
		same(t, "Shortest", g, before)
	}
	every(3, 3, []int{-1, 0, 2}, check)
	some(4000, func(r *rand.Rand) { check(random(r, 6, 9, -2, 5)) })
	some(1000, func(r *rand.Rand) { check(random(r, 6, 9, -load, load)) })
	if min(count[api.OK], count[api.ErrState]) < 1000 {
		t.Errorf("%v distances", count)
	}
}

// P11.5: the examples; directions matter, and a cycle that cannot be reached does not.
func TestShortestExamples(t *testing.T) {
	away := graph(4, [3]int{0, 1, 3}, [3]int{2, 3, -1}, [3]int{3, 2, 0}, [3]int{2, 0, 1})
	for _, c := range []struct {
		g       api.Weighted
		from    int
		least   []int
		reached []bool
		code    api.Code
	}{
		{example(1, 2), 0, []int{0, 2, 3, 8}, []bool{true, true, true, true}, api.OK},
		{example(1, 2), 3, []int{0, 0, 0, 0}, []bool{false, false, false, true}, api.OK},
		{example(1, -4), 0, nil, nil, api.ErrState},
		{example(1, -4), 3, []int{0, 0, 0, 0}, []bool{false, false, false, true}, api.OK},
		{example(1, -3), 1, []int{-2, 0, 1, 6}, []bool{true, true, true, true}, api.OK},
		{away, 0, []int{0, 3, 0, 0}, []bool{true, true, false, false}, api.OK},
		{away, 2, nil, nil, api.ErrState},
		{graph(2, [3]int{1, 1, -1}), 0, []int{0, 0}, []bool{true, false}, api.OK},
		{graph(2, [3]int{1, 1, -1}), 1, nil, nil, api.ErrState},
		{graph(1, [3]int{0, 0, 0}), 0, []int{0}, []bool{true}, api.OK},
	} {
		least, reached, code := forest.Shortest(c.g, c.from)
		if code != c.code || !slices.Equal(least, c.least) || !slices.Equal(reached, c.reached) {
			t.Errorf("Shortest(%v, %d) = %v, %v, %d", c.g, c.from, least, reached, code)
		}
	}
}

// tight fails the test unless links with p[B] = p[A] + W lead from some nodes to exactly those of a set, and no link leads from there to a lesser number: then p has the least weights of walks from those nodes.
func tight(t *testing.T, g api.Weighted, p []int, from []int, want []bool) {
	t.Helper()
	reached := make([]bool, g.Nodes)
	queue := slices.Clone(from)
	for len(queue) > 0 {
		node := queue[0]
		queue = queue[1:]
		if reached[node] {
			continue
		}
		reached[node] = true
		for _, l := range g.Links {
			if l.A == node && p[l.B] == p[l.A]+l.W {
				queue = append(queue, l.B)
			}
		}
	}
	if !slices.Equal(reached, want) {
		t.Fatal("some numbers are too small")
	}
	for _, l := range g.Links {
		if want[l.A] && (!want[l.B] || p[l.B] > p[l.A]+l.W) {
			t.Fatalf("the link %v contradicts %d and %d", l, p[l.A], p[l.B])
		}
	}
}

// P11.5 to P11.8: as many nodes and links and as great weights as there may be, without light cycles.
func TestLargeDistances(t *testing.T) {
	some(12, func(r *rand.Rand) {
		g := large(r, 0, load/2)
		// Potentials that are added to the weights make some of them negative, but close no cycle below 0.
		p := make([]int, 256)
		for k := range p {
			p[k] = r.Intn(load / 2)
		}
		for k, l := range g.Links {
			g.Links[k].W += p[l.B] - p[l.A]
		}
		checkDistances(t, g)
	})
	for _, w := range []int{load, -load, 0, 1, -1} {
		g := chain(w)
		checkDistances(t, g)
		slices.Reverse(g.Links)
		checkDistances(t, g)
		least, _, _ := forest.Shortest(g, 0)
		if least[255] != 255*w {
			t.Errorf("the end of the chain is at %d", least[255])
		}
	}
}

// checkDistances fails the test if distances or potentials of a graph without light cycles are wrong.
func checkDistances(t *testing.T, g api.Weighted) {
	t.Helper()
	least, reached, code := forest.Shortest(g, 0)
	if code != api.OK {
		t.Fatalf("Shortest: %d", code)
	}
	if least[0] != 0 || !reached[0] {
		t.Fatalf("0 is at %d", least[0])
	}
	tight(t, g, least, []int{0}, reached)
	p, code := forest.Potentials(g)
	if code != api.OK || forest.CheckPotentials(g, p) != api.OK {
		t.Fatalf("Potentials = %v, %d", p, code)
	}
	var top []int
	for k, x := range p {
		if x > 0 {
			t.Fatalf("the potential %d of %d is above 0", x, k)
		}
		if x == 0 {
			top = append(top, k)
		}
	}
	tight(t, g, p, top, slices.Repeat([]bool{true}, g.Nodes))
	if links, code := forest.Negative(g); code != api.ErrMissing || len(links) > 0 {
		t.Fatalf("Negative = %v, %d", links, code)
	}
	// The difference of potentials is never above a distance.
	for k := range p {
		if reached[k] && p[k]-p[0] > least[k] {
			t.Fatalf("the distance of %d is %d, the potentials are %d and %d", k, least[k], p[0], p[k])
		}
	}
}

// P11.6 to P11.8: a light cycle, or potentials, the greatest ones.
func TestNegativeOrPotentials(t *testing.T) {
	count := map[bool]int{}
	check := func(g api.Weighted) {
		isLight := false
		rounds(g, func(links []int) { isLight = isLight || weightOf(g, links) < 0 })
		count[isLight]++
		before := copied(g)
		links, code := forest.Negative(g)
		p, codeOfPotentials := forest.Potentials(g)
		same(t, "Negative", g, before)
		if isLight {
			if code != api.OK || !isLightRound(g, links) || forest.CheckCycle(g, links) != api.OK {
				t.Fatalf("Negative(%v) = %v, %d", g, links, code)
			}
			if codeOfPotentials != api.ErrState || len(p) > 0 {
				t.Fatalf("Potentials(%v) = %v, %d", g, p, codeOfPotentials)
			}
			return
		}
		if code != api.ErrMissing || len(links) > 0 {
			t.Fatalf("Negative(%v) = %v, %d", g, links, code)
		}
		// The greatest potentials are the least weights of walks from anywhere.
		want := make([]int, g.Nodes)
		for from := range g.Nodes {
			least, reached := lightestWalks(g, from)
			for k := range want {
				if reached[k] {
					want[k] = min(want[k], least[k])
				}
			}
		}
		if codeOfPotentials != api.OK || !slices.Equal(p, want) || forest.CheckPotentials(g, p) != api.OK {
			t.Fatalf("Potentials(%v) = %v, %d, want %v", g, p, codeOfPotentials, want)
		}
	}
	every(3, 3, []int{-1, 0, 2}, check)
	every(2, 4, []int{-2, 1}, check)
	some(6000, func(r *rand.Rand) { check(random(r, 6, 9, -2, 5)) })
	some(1000, func(r *rand.Rand) { check(random(r, 6, 9, -load, load)) })
	for n := range 3 {
		check(graph(n))
	}
	if min(count[true], count[false]) < 1000 {
		t.Errorf("%v graphs with light cycles", count)
	}
}

// P11.6: light cycles in large graphs, one that passes all nodes, and some that take few links.
func TestLargeNegative(t *testing.T) {
	some(40, func(r *rand.Rand) {
		for _, g := range []api.Weighted{large(r, -load, load), large(r, -1, 40), large(r, -load, -load), large(r, -3, 1)} {
			links, code := forest.Negative(g)
			p, other := forest.Potentials(g)
			if code == api.ErrMissing {
				if other != api.OK || forest.CheckPotentials(g, p) != api.OK {
					t.Fatalf("Potentials: %d", other)
				}
				continue
			}
			if code != api.OK || other != api.ErrState || !isLightRound(g, links) || forest.CheckCycle(g, links) != api.OK {
				t.Fatalf("Negative(%v) = %v, %d, %d", g, links, code, other)
			}
		}
	})
	for _, last := range []int{-256, -255, -254} {
		g := chain(1)
		g.Links = append(g.Links, api.Link{A: 255, B: 0, W: last})
		for range 2 {
			slices.Reverse(g.Links)
			links, code := forest.Negative(g)
			if want := last < -255; want != (code == api.OK) || want && (len(links) != 256 || !isLightRound(g, links)) {
				t.Errorf("Negative = %v, %d", links, code)
			}
		}
	}
	if links, code := forest.Negative(example(1, -4)); code != api.OK || len(links) != 3 || !isLightRound(example(1, -4), links) {
		t.Errorf("Negative of the example = %v, %d", links, code)
	}
}

// P11.6: all walks of at most four links.
func TestCheckCycle(t *testing.T) {
	accepted := 0
	check := func(g api.Weighted, links []int) {
		want := api.ErrProof
		if len(links) > 0 && isWalk(g, links, g.Links[links[0]].A, g.Links[links[0]].A) && weightOf(g, links) < 0 {
			want = api.OK
			accepted++
		}
		list := slices.Clone(links)
		if code := forest.CheckCycle(g, links); code != want || !slices.Equal(list, links) {
			t.Fatalf("CheckCycle(%v, %v): %d, want %d", g, list, code, want)
		}
	}
	some(60, func(r *rand.Rand) {
		g := random(r, 3, 5, -3, 1)
		n := len(g.Links)
		check(g, nil)
		for k := range n * n * n * n {
			links := []int{k % n, k / n % n, k / n / n % n, k / n / n / n}
			for m := range 5 {
				check(g, links[:m])
			}
		}
	})
	if accepted < 1000 {
		t.Errorf("only %d are accepted", accepted)
	}
}

// P11.6: nodes and links that are passed several times, and walks that are as long as may be.
func TestCheckCycleExamples(t *testing.T) {
	g := graph(3, [3]int{0, 1, -load}, [3]int{1, 0, load - 1}, [3]int{0, 2, 0}, [3]int{2, 0, 0}, [3]int{1, 1, -load})
	for _, c := range []struct {
		links []int
		want  api.Code
	}{
		{[]int{0, 1}, api.OK},
		{[]int{1, 0}, api.OK},
		{[]int{4}, api.OK},
		{[]int{0, 4, 1, 2, 3, 0, 1}, api.OK},
		{slices.Repeat([]int{0, 1}, 512), api.OK},
		{slices.Repeat([]int{4}, 1024), api.OK},
		{slices.Repeat([]int{2, 3}, 512), api.ErrProof},
		{[]int{2, 3}, api.ErrProof},
		{[]int{0}, api.ErrProof},
		{[]int{0, 4}, api.ErrProof},
		{[]int{1, 2}, api.ErrProof},
		{[]int{}, api.ErrProof},
		{slices.Repeat([]int{4}, 1025), api.ErrLimit},
		{append(slices.Repeat([]int{4}, 1024), -1), api.ErrLimit},
		{[]int{4, 5}, api.ErrRange},
		{[]int{-1}, api.ErrRange},
	} {
		if code := forest.CheckCycle(g, c.links); code != c.want {
			t.Errorf("CheckCycle(%v): %d, want %d", c.links, code, c.want)
		}
	}
}

// P11.6, P11.7: exactly the lists that no link contradicts are potentials; each of them bounds all walks.
func TestCheckPotentials(t *testing.T) {
	count := map[api.Code]int{}
	some(4000, func(r *rand.Rand) {
		g := random(r, 5, 5, -2, 3)
		p := make([]int, g.Nodes)
		for k := range p {
			p[k] = r.Intn(7) - 3
		}
		want := api.OK
		for _, l := range g.Links {
			if p[l.B]-p[l.A] > l.W {
				want = api.ErrProof
			}
		}
		list := slices.Clone(p)
		code := forest.CheckPotentials(g, p)
		if code != want || !slices.Equal(list, p) {
			t.Fatalf("CheckPotentials(%v, %v): %d, want %d", g, p, code, want)
		}
		count[code]++
		if code != api.OK {
			return
		}
		for from := range p {
			least, reached := lightestWalks(g, from)
			for k := range p {
				if reached[k] && least[k] < p[k]-p[from] {
					t.Fatalf("the walk from %d to %d weighs %d, the potentials are %v", from, k, least[k], p)
				}
			}
		}
		// Those of Potentials are greater.
		shift := slices.Max(p)
		greatest, _ := forest.Potentials(g)
		for k := range p {
			if p[k]-shift > greatest[k] {
				t.Fatalf("Potentials(%v) = %v, but %v less %d are potentials", g, greatest, p, shift)
			}
		}
	})
	if min(count[api.OK], count[api.ErrProof]) < 500 {
		t.Errorf("%v lists", count)
	}
}

// P11.7: distances from a node that reaches all others are potentials, and differ as much as their walks weigh.
func TestDistancesArePotentials(t *testing.T) {
	reachesAll := 0
	some(3000, func(r *rand.Rand) {
		g := random(r, 6, 14, -1, 5)
		least, reached, code := forest.Shortest(g, 0)
		if code != api.OK || slices.Contains(reached, false) {
			return
		}
		reachesAll++
		if code := forest.CheckPotentials(g, least); code != api.OK {
			t.Fatalf("CheckPotentials(%v, %v): %d", g, least, code)
		}
		for k := range least {
			least[k]++
			greater := forest.CheckPotentials(g, least)
			least[k]--
			// A greater number for one node alone is refuted by the last link of its walk, but the first node may be lower than the others.
			if k != 0 && greater != api.ErrProof {
				t.Fatalf("CheckPotentials(%v, %v) with %d raised: %d", g, least, k, greater)
			}
		}
	})
	if reachesAll < 200 {
		t.Errorf("only %d nodes reach all others", reachesAll)
	}
}

// P11.8: the third example.
func TestPotentialsExamples(t *testing.T) {
	for _, c := range []struct {
		g    api.Weighted
		want []int
		code api.Code
	}{
		{example(1, 2), []int{0, 0, 0, 0}, api.OK},
		{example(-2, 2), []int{0, 0, -2, 0}, api.OK},
		{example(-2, -1), nil, api.ErrState},
		{example(1, -3), []int{-3, -1, 0, 0}, api.OK},
		{graph(0), nil, api.OK},
		{graph(2), []int{0, 0}, api.OK},
		{graph(1, [3]int{0, 0, -1}), nil, api.ErrState},
	} {
		if got, code := forest.Potentials(c.g); code != c.code || !slices.Equal(got, c.want) {
			t.Errorf("Potentials(%v) = %v, %d, want %v", c.g, got, code, c.want)
		}
	}
}
