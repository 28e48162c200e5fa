package neighbour

import (
	"cmp"
	"slices"

	"fiducial/api"
)

const (
	none     = -1 // the index of a node that there is not
	farthest = 64 // greatest distance of two words
)

// built returns a right tree for a list of words: below each node half of the words is near, if the distances allow.
func built(l []uint64) []api.Vantage {
	var t []api.Vantage
	var plant func(items []int) int
	plant = func(items []int) int {
		if len(items) == 0 {
			return none
		}
		k, top := len(t), items[0]
		t = append(t, api.Vantage{Item: top})
		radius, count := halved(l, top, items[1:])
		near := plant(items[1 : 1+count])
		far := plant(items[1+count:])
		t[k] = api.Vantage{Item: top, Radius: radius, Near: near, Far: far}
		return k
	}
	items := make([]int, len(l))
	for i := range items {
		items[i] = i
	}
	plant(items)
	return t
}

// halved sorts items by their distances from the word top, and returns the middle one of these distances and the number of items that have at most this distance.
func halved(l []uint64, top int, items []int) (radius, count int) {
	if len(items) == 0 {
		return 0, 0
	}
	distance := func(i int) int { return Distance(l[top], l[i]) }
	slices.SortStableFunc(items, func(i, j int) int { return cmp.Compare(distance(i), distance(j)) })
	count = (len(items) + 1) / 2
	radius = distance(items[count-1])
	for count < len(items) && distance(items[count]) == radius {
		count++
	}
	return radius, count
}

// isRight reports whether t is a right tree for a list of words.
func isRight(l []uint64, t []api.Vantage) bool {
	if len(t) != len(l) || !hasItems(t) {
		return false
	}
	above, ok := parents(t)
	if !ok {
		return false
	}
	for k, v := range t {
		for low, high := k, above[k]; high != none; low, high = high, above[high] {
			isNear := Distance(l[t[high].Item], l[v.Item]) <= t[high].Radius
			if isNear != (t[high].Near == low) {
				return false
			}
		}
	}
	return true
}

// hasItems reports whether each index of the list of words is the item of one node, and all radii are in their range.
func hasItems(t []api.Vantage) bool {
	has := make([]bool, len(t))
	for _, v := range t {
		if !within(v.Item, 0, len(t)-1) || has[v.Item] || !within(v.Radius, 0, farthest) {
			return false
		}
		has[v.Item] = true
	}
	return true
}

// parents returns for each node the node of which it is Near or Far, none for node 0, and whether each other node has just one and comes after it.
func parents(t []api.Vantage) ([]int, bool) {
	above := slices.Repeat([]int{none}, len(t))
	for k, v := range t {
		for _, low := range [2]int{v.Near, v.Far} {
			if low == none {
				continue
			}
			if !within(low, k+1, len(t)-1) || above[low] != none {
				return nil, false
			}
			above[low] = k
		}
	}
	return above, len(t) == 0 || !slices.Contains(above[1:], none)
}

// found returns the index of the nearest word, its distance, and the number of words that were compared; t is a right tree for l, which is not empty.
func found(l []uint64, t []api.Vantage, w uint64) (index, distance, visited int) {
	distance = farthest + 1
	var visit func(k int)
	visit = func(k int) {
		v := t[k]
		d := Distance(l[v.Item], w)
		visited++
		if d < distance || d == distance && v.Item < index {
			index, distance = v.Item, d
		}
		// By the triangle inequality no word below a side is nearer than least. A word at the same distance may have a lesser index.
		enter := func(side, least int) {
			if side != none && least <= distance {
				visit(side)
			}
		}
		if d <= v.Radius {
			enter(v.Near, d-v.Radius)
			enter(v.Far, v.Radius+1-d)
		} else {
			enter(v.Far, v.Radius+1-d)
			enter(v.Near, d-v.Radius)
		}
	}
	visit(0)
	return index, distance, visited
}
