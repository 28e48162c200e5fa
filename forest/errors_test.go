package forest_test

import (
	"math"
	"slices"
	"testing"

	"fiducial/api"
	"fiducial/forest"
)

// function is a function of a graph, with other arguments that are invalid or fit few graphs; it returns whether all results beside the code are zero.
type function struct {
	name string
	call func(g api.Weighted) (bool, api.Code)
}

// functions are all functions of the layer.
func functions() []function {
	return []function{
		{"Check", func(g api.Weighted) (bool, api.Code) { return true, forest.Check(g) }},
		{"Classes", func(g api.Weighted) (bool, api.Code) { l, code := forest.Classes(g); return len(l) == 0, code }},
		{"Tree", func(g api.Weighted) (bool, api.Code) { l, code := forest.Tree(g); return len(l) == 0, code }},
		{"CheckTree", func(g api.Weighted) (bool, api.Code) { return true, forest.CheckTree(g, []int{2, 1, -1}) }},
		{"Path", func(g api.Weighted) (bool, api.Code) {
			l, code := forest.Path(g, []int{1, 1, 9999}, -1, 9999)
			return len(l) == 0, code
		}},
		{"Cycles", func(g api.Weighted) (bool, api.Code) {
			l, code := forest.Cycles(g, []int{1, 1, 9999})
			return len(l) == 0, code
		}},
		{"Shortest", func(g api.Weighted) (bool, api.Code) {
			l, which, code := forest.Shortest(g, -1)
			return len(l) == 0 && len(which) == 0, code
		}},
		{"Negative", func(g api.Weighted) (bool, api.Code) { l, code := forest.Negative(g); return len(l) == 0, code }},
		{"CheckCycle", func(g api.Weighted) (bool, api.Code) { return true, forest.CheckCycle(g, make([]int, 2000)) }},
		{"Potentials", func(g api.Weighted) (bool, api.Code) { l, code := forest.Potentials(g); return len(l) == 0, code }},
		{"CheckPotentials", func(g api.Weighted) (bool, api.Code) { return true, forest.CheckPotentials(g, make([]int, 2000)) }},
	}
}

// P11.1 to P11.8: what is no graph, with the code of the first error; each has errors of those that come behind it, too.
func TestInvalidGraphs(t *testing.T) {
	many := make([]api.Link, 1025)
	for _, c := range []struct {
		g    api.Weighted
		want api.Code
	}{
		{api.Weighted{Nodes: -1}, api.ErrArgument},
		{api.Weighted{Nodes: math.MinInt, Links: many}, api.ErrArgument},
		{graph(-5, [3]int{0, 0, load + 1}), api.ErrArgument},
		{api.Weighted{Nodes: 257}, api.ErrLimit},
		{api.Weighted{Nodes: math.MaxInt}, api.ErrLimit},
		{graph(257, [3]int{300, 0, 1}), api.ErrLimit},
		{api.Weighted{Nodes: 1, Links: many}, api.ErrLimit},
		{api.Weighted{Nodes: 0, Links: many}, api.ErrLimit},
		{graph(0, [3]int{0, 0, 0}), api.ErrRange},
		{graph(2, [3]int{-1, 0, 0}), api.ErrRange},
		{graph(2, [3]int{0, -1, 0}), api.ErrRange},
		{graph(2, [3]int{2, 0, 0}), api.ErrRange},
		{graph(2, [3]int{0, 2, 0}), api.ErrRange},
		{graph(256, [3]int{255, 256, 0}), api.ErrRange},
		{graph(2, [3]int{0, 1, load + 1}), api.ErrRange},
		{graph(2, [3]int{0, 1, -load - 1}), api.ErrRange},
		{graph(2, [3]int{0, 1, math.MinInt}), api.ErrRange},
		{graph(2, [3]int{math.MaxInt, math.MinInt, math.MaxInt}), api.ErrRange},
		{graph(2, [3]int{0, 1, 0}, [3]int{0, 0, 0}, [3]int{1, 0, load + 1}), api.ErrRange},
	} {
		for _, f := range functions() {
			if isZero, code := f.call(c.g); code != c.want || !isZero {
				t.Errorf("%s of %d nodes, %d links: %d, want %d", f.name, c.g.Nodes, len(c.g.Links), code, c.want)
			}
		}
	}
}

// P11.1: graphs at the ends of the ranges.
func TestValidGraphs(t *testing.T) {
	for _, g := range []api.Weighted{
		{}, graph(0), graph(1), graph(256), {Nodes: 1, Links: make([]api.Link, 1024)},
		graph(256, [3]int{255, 255, load}, [3]int{0, 255, -load}), graph(2, [3]int{0, 1, 0}, [3]int{0, 1, 0}, [3]int{1, 0, 0}, [3]int{1, 1, 0}),
	} {
		if code := forest.Check(g); code != api.OK {
			t.Errorf("Check(%v): %d", g, code)
		}
	}
}

// P11.3, P11.4: the errors of a forest, in their order, for each function that takes one.
func TestInvalidForests(t *testing.T) {
	// A triangle, a loop and a double link.
	g := graph(5, [3]int{0, 1, 1}, [3]int{1, 2, 1}, [3]int{2, 0, 1}, [3]int{3, 3, 1}, [3]int{2, 1, 1}, [3]int{2, 3, 1})
	for _, c := range []struct {
		tree []int
		want api.Code
	}{
		{[]int{6}, api.ErrRange},
		{[]int{-1}, api.ErrRange},
		{[]int{math.MinInt}, api.ErrRange},
		{[]int{math.MaxInt}, api.ErrRange},
		{[]int{1, 0, 6}, api.ErrRange},
		{[]int{3, 3, -1}, api.ErrRange},
		{append(make([]int, 5000), 6), api.ErrRange},
		{[]int{1, 0}, api.ErrOrder},
		{[]int{1, 1}, api.ErrOrder},
		{[]int{0, 1, 2, 3, 3}, api.ErrOrder},
		{[]int{3, 2}, api.ErrOrder},
		{make([]int, 5000), api.ErrOrder},
		{[]int{3}, api.ErrState},
		{[]int{0, 1, 2}, api.ErrState},
		{[]int{1, 4}, api.ErrState},
		{[]int{0, 2, 4}, api.ErrState},
		{[]int{0, 1, 2, 3, 4, 5}, api.ErrState},
		{[]int{0, 3, 5}, api.ErrState},
	} {
		before := slices.Clone(c.tree)
		if code := forest.CheckTree(g, c.tree); code != c.want {
			t.Errorf("CheckTree(%v): %d, want %d", c.tree, code, c.want)
		}
		if l, code := forest.Path(g, c.tree, -1, 9); code != c.want || len(l) > 0 {
			t.Errorf("Path(%v): %d, want %d", c.tree, code, c.want)
		}
		if l, code := forest.Cycles(g, c.tree); code != c.want || len(l) > 0 {
			t.Errorf("Cycles(%v): %d, want %d", c.tree, code, c.want)
		}
		if !slices.Equal(before, c.tree) {
			t.Errorf("%v has been changed", before)
		}
	}
	for _, tree := range [][]int{nil, {0}, {0, 1}, {0, 5}, {4, 5}} {
		if code := forest.CheckTree(g, tree); code != api.ErrMissing {
			t.Errorf("CheckTree(%v): %d", tree, code)
		}
		if l, code := forest.Cycles(g, tree); code != api.ErrMissing || len(l) > 0 {
			t.Errorf("Cycles(%v): %v, %d", tree, l, code)
		}
	}
}

// P11.3: a forest that is too heavy and not spanning is not spanning.
func TestErrorsOfTrees(t *testing.T) {
	g := graph(3, [3]int{0, 1, 9}, [3]int{0, 1, 1}, [3]int{1, 2, 1})
	for _, c := range []struct {
		tree []int
		want api.Code
	}{{[]int{0}, api.ErrMissing}, {[]int{0, 2}, api.ErrProof}, {[]int{1, 2}, api.OK}, {[]int{0, 1}, api.ErrState}} {
		if code := forest.CheckTree(g, c.tree); code != c.want {
			t.Errorf("CheckTree(%v): %d, want %d", c.tree, code, c.want)
		}
	}
}

// P11.4, P11.5: nodes that are none, before what follows from the graph.
func TestInvalidNodes(t *testing.T) {
	g := graph(3, [3]int{0, 1, 1}, [3]int{2, 2, -1})
	for _, bad := range []int{-1, 3, 256, math.MinInt, math.MaxInt} {
		for _, l := range [][2]int{{bad, 0}, {0, bad}, {bad, bad}, {bad, 2}, {2, bad}} {
			if path, code := forest.Path(g, []int{0}, l[0], l[1]); code != api.ErrRange || len(path) > 0 {
				t.Errorf("Path from %d to %d: %v, %d", l[0], l[1], path, code)
			}
		}
		if least, reached, code := forest.Shortest(g, bad); code != api.ErrRange || len(least)+len(reached) > 0 {
			t.Errorf("Shortest from %d: %d", bad, code)
		}
	}
	if _, code := forest.Path(g, []int{0}, 0, 2); code != api.ErrMissing {
		t.Errorf("Path from 0 to 2: %d", code)
	}
	for _, from := range []int{0, 1, math.MaxInt, -1} {
		if _, _, code := forest.Shortest(graph(0), from); code != api.ErrRange {
			t.Errorf("Shortest from %d of no nodes: %d", from, code)
		}
		if _, code := forest.Path(graph(0), nil, from, from); code != api.ErrRange {
			t.Errorf("Path from %d of no nodes: %d", from, code)
		}
	}
}

// P11.6: the errors of potentials in their order, and the ends of the range.
func TestInvalidPotentials(t *testing.T) {
	most := load * 256
	g := graph(2, [3]int{0, 1, 1})
	loose := graph(2, [3]int{0, 1, load})
	for _, c := range []struct {
		g    api.Weighted
		p    []int
		want api.Code
	}{
		{g, nil, api.ErrMismatch},
		{g, []int{0}, api.ErrMismatch},
		{g, []int{0, 0, 0}, api.ErrMismatch},
		{g, []int{most + 1}, api.ErrMismatch},
		{graph(0), []int{0}, api.ErrMismatch},
		{graph(0), nil, api.OK},
		{g, []int{most + 1, 0}, api.ErrRange},
		{g, []int{0, most + 1}, api.ErrRange},
		{g, []int{0, -most - 1}, api.ErrRange},
		{g, []int{math.MinInt, math.MaxInt}, api.ErrRange},
		{g, []int{math.MaxInt, math.MaxInt}, api.ErrRange},
		{g, []int{0, 2}, api.ErrProof},
		{g, []int{-most, most}, api.ErrProof},
		{g, []int{most - 2, most}, api.ErrProof},
		{g, []int{most - 1, most}, api.OK},
		{g, []int{most, -most}, api.OK},
		{g, []int{0, 1}, api.OK},
		{loose, []int{0, load}, api.OK},
		{loose, []int{-1, load}, api.ErrProof},
	} {
		if code := forest.CheckPotentials(c.g, c.p); code != c.want {
			t.Errorf("CheckPotentials(%v, %v): %d, want %d", c.g, c.p, code, c.want)
		}
	}
}

// P11.2, P11.4 to P11.8: results are new memory in each call, and the lists of one result share none.
func TestNothingIsShared(t *testing.T) {
	g := graph(4, [3]int{0, 1, 2}, [3]int{1, 2, 1}, [3]int{2, 0, 2}, [3]int{2, 3, 5}, [3]int{3, 3, -1}, [3]int{3, 0, 4})
	light := graph(4, [3]int{0, 1, -2}, [3]int{1, 2, 1}, [3]int{2, 3, 5})
	spoil := func(l []int) {
		for i := range l {
			l[i] = 77
		}
		_ = append(l, 77)
	}
	for range 2 {
		tree, _ := forest.Tree(g)
		path, _ := forest.Path(g, tree, 3, 0)
		cycles, _ := forest.Cycles(g, tree)
		classes, _ := forest.Classes(g)
		links, _ := forest.Negative(g)
		p, _ := forest.Potentials(light)
		least, reached, _ := forest.Shortest(light, 1)
		if !slices.Equal(tree, []int{0, 1, 5}) || !slices.Equal(path, []int{5}) || !slices.Equal(classes, []int{0, 0, 0, 0}) || !slices.Equal(links, []int{4}) {
			t.Fatal(tree, path, classes, links)
		}
		if !slices.Equal(p, []int{0, -2, -1, 0}) || !slices.Equal(least, []int{0, 0, 1, 6}) || !slices.Equal(reached, []bool{false, true, true, true}) {
			t.Fatal(p, least, reached)
		}
		want := [][]int{{3, 1, 2}, {4, 6, 1, 2}, {5}}
		for i := range cycles {
			if !slices.Equal(cycles[i], want[i]) {
				t.Fatal(cycles)
			}
			spoil(cycles[i])
		}
		for _, l := range [][]int{tree, path, classes, links, p, least} {
			spoil(l)
		}
		clear(reached)
	}
}
