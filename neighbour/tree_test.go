package neighbour_test

import (
	"math/rand"
	"slices"
	"testing"

	"fiducial/api"
	"fiducial/neighbour"
)

// wantChecked fails the test if CheckTree does not say whether a tree is right, or Search does not return ErrProof for one that is not. It returns whether it is right.
func wantChecked(t *testing.T, l []uint64, tree []api.Vantage) bool {
	t.Helper()
	want := api.ErrProof
	if isRight(l, tree) {
		want = api.OK
	}
	before, words := slices.Clone(tree), slices.Clone(l)
	if code := neighbour.CheckTree(l, tree); code != want {
		t.Fatalf("CheckTree(%x, %v) = %d, want %d", l, tree, code, want)
	}
	index, distance, visited, code := neighbour.Search(l, tree, 0)
	if want == api.ErrProof && (index != 0 || distance != 0 || visited != 0 || code != want) {
		t.Fatalf("Search(%x, %v) = %d, %d, %d, %d", l, tree, index, distance, visited, code)
	}
	if !slices.Equal(tree, before) || !slices.Equal(l, words) {
		t.Fatalf("CheckTree or Search of %x, %v has changed an argument", words, before)
	}
	return want == api.OK
}

// wantSearch fails the test if Search does not find the nearest word with a right tree.
func wantSearch(t *testing.T, l []uint64, tree []api.Vantage, w uint64) int {
	t.Helper()
	want := nearestOf(l, w)
	index, distance, visited, code := neighbour.Search(l, tree, w)
	if code != api.OK || index != want || distance != distanceOf(l[want], w) || visited < 1 || visited > len(l) {
		t.Fatalf("Search(%x, %v, %x) = %d, %d, %d, %d, want %d", l, tree, w, index, distance, visited, code, want)
	}
	return visited
}

// P22.2: Build returns a right tree, and changes no list.
func TestBuild(t *testing.T) {
	some(1500, func(r *rand.Rand) {
		l := randomList(r, randomBits(r))
		before := slices.Clone(l)
		tree, code := neighbour.Build(l)
		if code != api.OK || !slices.Equal(l, before) || !wantChecked(t, l, tree) {
			t.Fatalf("Build(%x) = %v, %d", l, tree, code)
		}
		for i := range tree {
			tree[i].Item = -5
		}
		if again, code := neighbour.Build(l); code != api.OK || !isRight(l, again) {
			t.Fatalf("Build(%x) again = %v, %d", l, again, code)
		}
	})
	for _, l := range [][]uint64{nil, {}, {5}, make([]uint64, 64), {0, 1<<64 - 1}, {0, 1, 2, 4, 8, 16, 32, 64}} {
		if tree, code := neighbour.Build(l); code != api.OK || !wantChecked(t, l, tree) {
			t.Errorf("Build(%x) = %v, %d", l, tree, code)
		}
	}
}

// P22.2: all trees with up to two nodes whose numbers are in their ranges or just outside.
func TestCheckTreeAll(t *testing.T) {
	right := map[int]int{}
	for _, l := range [][]uint64{{}, {6}, {6, 6}, {0, 1}, {0, 3}} {
		n := len(l)
		var node []api.Vantage
		for item := -1; item <= n; item++ {
			for _, radius := range []int{-1, 0, 1, 2, 64, 65} {
				for near := -2; near <= n; near++ {
					for far := -2; far <= n; far++ {
						node = append(node, api.Vantage{Item: item, Radius: radius, Near: near, Far: far})
					}
				}
			}
		}
		if wantChecked(t, l, nil) {
			right[0]++
		}
		for _, a := range node {
			if wantChecked(t, l, []api.Vantage{a}) {
				right[1]++
			}
		}
		if n < 2 {
			continue
		}
		for _, a := range node {
			for _, b := range node {
				if wantChecked(t, l, []api.Vantage{a, b}) {
					right[2]++
				}
			}
		}
	}
	if right[0] != 1 || right[1] != 4 || right[2] < 50 {
		t.Errorf("right trees: %v", right)
	}
}

// P22.2: all shapes of trees with three nodes, with all orders of items and some radii.
func TestCheckTreeThree(t *testing.T) {
	right := 0
	for _, l := range [][]uint64{{0, 1, 3}, {4, 4, 4}, {0, 7, 1}, {0, 1, 2}} {
		for shape := range 4 * 4 * 4 * 4 * 4 * 4 {
			link := func(i int) int { return shape>>(2*i)&3 - 1 }
			for order := range 27 {
				for radii := range 27 {
					tree := make([]api.Vantage, 3)
					for k, p := range []int{1, 3, 9} {
						tree[k] = api.Vantage{Item: order / p % 3, Radius: radii / p % 3, Near: link(2 * k), Far: link(2*k + 1)}
					}
					// Most of these are no trees; only some of them are tried.
					if isTry := (shape+order+radii)%11 == 0; (isTry || isRight(l, tree)) && wantChecked(t, l, tree) {
						right++
					}
				}
			}
		}
	}
	if right < 500 {
		t.Errorf("%d right trees", right)
	}
}

// P22.2: any right tree is accepted; with one changed number, or with two nodes exchanged, it is accepted only if it is still right.
func TestCheckTree(t *testing.T) {
	right, wrong := map[int]int{}, map[int]int{}
	some(3000, func(r *rand.Rand) {
		l := randomList(r, randomBits(r))
		tree := randomTree(r, l)
		if !wantChecked(t, l, tree) {
			t.Fatalf("the tree %v is not right for %x", tree, l)
		}
		if len(l) == 0 {
			return
		}
		for kind := range 8 {
			changed, words := slices.Clone(tree), slices.Clone(l)
			v, w := &changed[r.Intn(len(l))], &changed[r.Intn(len(l))]
			number := pick(r, append(far(), -2, -1, 0, len(l)-1, len(l), r.Intn(len(l)), 64, 65)...)
			switch kind {
			case 0:
				v.Item = number
			case 1:
				v.Radius = pick(r, number, v.Radius+1, v.Radius-1)
			case 2:
				v.Near = number
			case 3:
				v.Far = number
			case 4:
				v.Near, v.Far = v.Far, v.Near
			case 5:
				v.Item, w.Item = w.Item, v.Item
			case 6:
				*v, *w = *w, *v
			case 7:
				words[r.Intn(len(l))] ^= 1 << r.Intn(64)
			}
			if wantChecked(t, words, changed) {
				right[kind]++
			} else {
				wrong[kind]++
			}
		}
	})
	for kind := range 8 {
		if right[kind] < 20 || wrong[kind] < 100 {
			t.Errorf("right %v, wrong %v", right, wrong)
		}
	}
}

// P22.2: trees that are not right, of every kind.
func TestCheckTreeWrong(t *testing.T) {
	l := []uint64{0, 1, 7, 15}
	right := []api.Vantage{{Item: 0, Radius: 1, Near: 1, Far: 2}, {Item: 1, Near: -1, Far: -1}, {Item: 3, Radius: 1, Near: 3, Far: -1}, {Item: 2, Near: -1, Far: -1}}
	if code := neighbour.CheckTree(l, right); code != api.OK {
		t.Fatalf("CheckTree(%v) = %d", right, code)
	}
	for name, change := range map[string]func(tree []api.Vantage) []api.Vantage{
		"empty":                       func(tree []api.Vantage) []api.Vantage { return nil },
		"a node too few":              func(tree []api.Vantage) []api.Vantage { tree[2].Near = -1; return tree[:3] },
		"a node too many":             func(tree []api.Vantage) []api.Vantage { tree[3].Near = 4; return append(tree, tree[3]) },
		"an item below":               func(tree []api.Vantage) []api.Vantage { tree[1].Item = -1; return tree },
		"an item beyond":              func(tree []api.Vantage) []api.Vantage { tree[1].Item = 4; return tree },
		"an item twice":               func(tree []api.Vantage) []api.Vantage { tree[1].Item = 0; return tree },
		"a radius below":              func(tree []api.Vantage) []api.Vantage { tree[1].Radius = -1; return tree },
		"a radius beyond":             func(tree []api.Vantage) []api.Vantage { tree[1].Radius = 65; return tree },
		"a node that is not reached":  func(tree []api.Vantage) []api.Vantage { tree[2].Near = -1; return tree },
		"a node reached twice":        func(tree []api.Vantage) []api.Vantage { tree[1].Near = 3; return tree },
		"a node on both sides":        func(tree []api.Vantage) []api.Vantage { tree[2].Far = 3; return tree },
		"a circle":                    func(tree []api.Vantage) []api.Vantage { tree[2].Near, tree[3].Near = 3, 2; return tree },
		"a node below itself":         func(tree []api.Vantage) []api.Vantage { tree[0].Far, tree[2].Far = -1, 2; return tree },
		"the first node below":        func(tree []api.Vantage) []api.Vantage { tree[3].Near = 0; return tree },
		"an earlier node":             func(tree []api.Vantage) []api.Vantage { tree[3].Far = 1; return tree },
		"a node beyond":               func(tree []api.Vantage) []api.Vantage { tree[3].Far = 4; return tree },
		"a node less than none":       func(tree []api.Vantage) []api.Vantage { tree[3].Far = -2; return tree },
		"near that is far":            func(tree []api.Vantage) []api.Vantage { tree[0].Radius = 0; return tree },
		"far that is near, below far": func(tree []api.Vantage) []api.Vantage { tree[0].Radius = 3; return tree },
		"far that is near":            func(tree []api.Vantage) []api.Vantage { tree[0].Radius = 4; return tree },
	} {
		tree := change(slices.Clone(right))
		if isRight(l, tree) || neighbour.CheckTree(l, tree) != api.ErrProof {
			t.Errorf("%s: CheckTree(%v) = %d", name, tree, neighbour.CheckTree(l, tree))
		}
		wantChecked(t, l, tree)
	}
}

// P22.3: Search with any right tree finds the nearest word with the least index.
func TestSearch(t *testing.T) {
	saved := 0
	some(8000, func(r *rand.Rand) {
		bits := randomBits(r)
		l := randomList(r, bits)
		if len(l) == 0 {
			return
		}
		built, code := neighbour.Build(l)
		if code != api.OK {
			t.Fatalf("Build(%x): %d", l, code)
		}
		tree := randomTree(r, l)
		for range 5 {
			w := pick(r, randomWord(r, bits), pick(r, l...), pick(r, l...)^1<<r.Intn(bits), ^pick(r, l...))
			wantSearch(t, l, tree, w)
			saved += len(l) - wantSearch(t, l, built, w)
		}
	})
	if saved < 100000 {
		t.Errorf("%d words were not compared", saved)
	}
}

// P22.3: short lists of words of three bits, with many equal distances; all such words are searched.
func TestSearchEqual(t *testing.T) {
	some(3000, func(r *rand.Rand) {
		l := make([]uint64, 1+r.Intn(6))
		for i := range l {
			l[i] = uint64(r.Intn(8))
		}
		tree := randomTree(r, l)
		for w := range uint64(8) {
			wantSearch(t, l, tree, w)
		}
	})
}

// P22.3: a tree that is a chain of 64 equal words, or of words each farther away.
func TestSearchChain(t *testing.T) {
	l, near, far := make([]uint64, 64), make([]api.Vantage, 64), make([]api.Vantage, 64)
	for i := range l {
		// The last word is the first item, so that the least index is found last.
		near[i] = api.Vantage{Item: 63 - i, Near: i + 1, Far: -1}
		far[i] = api.Vantage{Item: 63 - i, Near: -1, Far: i + 1}
	}
	near[63].Near, far[63].Far = -1, -1
	if visited := wantSearch(t, l, near, 5); visited != 64 {
		t.Errorf("%d words were compared", visited)
	}
	if neighbour.CheckTree(l, far) != api.ErrProof {
		t.Error("equal words are not far")
	}
	for i := range l {
		l[i] = 1<<i - 1
	}
	for _, w := range []uint64{0, 1, 1<<63 - 1, 1<<64 - 1, 1 << 63} {
		wantSearch(t, l, far, w)
	}
}

// P22.2, P22.3: lists that are too long, then trees that are not right, then an empty list.
func TestTreeInvalid(t *testing.T) {
	for _, n := range []int{65, 1000} {
		l := make([]uint64, n)
		tree := make([]api.Vantage, n)
		for i := range tree {
			tree[i] = api.Vantage{Item: i, Near: i + 1, Far: -1}
		}
		tree[n-1].Near = -1
		if tree, code := neighbour.Build(l); len(tree) != 0 || code != api.ErrLimit {
			t.Errorf("Build of %d words = %v, %d", n, tree, code)
		}
		for _, given := range [][]api.Vantage{nil, tree, tree[:64]} {
			if code := neighbour.CheckTree(l, given); code != api.ErrLimit {
				t.Errorf("CheckTree of %d words = %d", n, code)
			}
			if index, distance, visited, code := neighbour.Search(l, given, 1); index != 0 || distance != 0 || visited != 0 || code != api.ErrLimit {
				t.Errorf("Search of %d words = %d, %d, %d, %d", n, index, distance, visited, code)
			}
		}
		// A tree is no list of words: it may be long, and then it is not right.
		if code := neighbour.CheckTree(l[:64], tree); code != api.ErrProof {
			t.Errorf("CheckTree of %d nodes = %d", n, code)
		}
	}
	for _, l := range [][]uint64{nil, {}} {
		for _, tree := range [][]api.Vantage{nil, {}} {
			if code := neighbour.CheckTree(l, tree); code != api.OK {
				t.Errorf("CheckTree of nothing = %d", code)
			}
			if index, distance, visited, code := neighbour.Search(l, tree, 1); index != 0 || distance != 0 || visited != 0 || code != api.ErrMissing {
				t.Errorf("Search of nothing = %d, %d, %d, %d", index, distance, visited, code)
			}
		}
		tree := []api.Vantage{{Near: -1, Far: -1}}
		if _, _, _, code := neighbour.Search(l, tree, 1); code != api.ErrProof || neighbour.CheckTree(l, tree) != api.ErrProof {
			t.Errorf("Search of nothing with a node: %d", code)
		}
	}
}
