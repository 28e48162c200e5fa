package track_test

import (
	"math"
	"math/rand"
	"slices"

	"fiducial/api"
)

// The limits.
const (
	maxTies    = 256
	maxImages  = 64
	maxFeature = 4095
	maxCost    = 1 << 20
)

// pick is an element of a list.
func pick[T any](r *rand.Rand, l ...T) T { return l[r.Intn(len(l))] }

// some calls check many times.
func some(rounds int, check func(r *rand.Rand)) {
	r := rand.New(rand.NewSource(26))
	for range rounds {
		check(r)
	}
}

// mark is the feature of an image.
func mark(image, feature int) api.Mark { return api.Mark{Image: image, Feature: feature} }

// tie says that a and b are matched.
func tie(a, b api.Mark, cost int) api.Tie { return api.Tie{A: a, B: b, Cost: cost} }

// random are ties between few features, so that many of them meet; some have equal costs, or occur twice.
func random(r *rand.Rand) []api.Tie {
	images, features, costs := 2+r.Intn(6), 1+r.Intn(4), pick(r, 1, 3, 30, maxCost+1)
	image := func(k int) int { return k }
	if r.Intn(3) == 0 {
		// The greatest numbers.
		image = func(k int) int { return maxImages - 1 - 9*k }
	}
	feature := func() int {
		if r.Intn(4) == 0 {
			return maxFeature
		}
		return r.Intn(features)
	}
	l := make([]api.Tie, r.Intn(16))
	for i := range l {
		a, b := r.Intn(images), r.Intn(images-1)
		if b >= a {
			b++
		}
		a, b = image(a), image(b)
		l[i] = tie(mark(min(a, b), feature()), mark(max(a, b), feature()), r.Intn(costs))
		if i > 0 && r.Intn(6) == 0 {
			l[i] = l[r.Intn(i)]
		}
	}
	return l
}

// anyTracks are lists of marks that need not be tracks: of images from 0 on, of which some occur twice.
func anyTracks(r *rand.Rand, images int) [][]api.Mark {
	l := make([][]api.Mark, r.Intn(8))
	for i := range l {
		for range r.Intn(6) {
			l[i] = append(l[i], mark(r.Intn(images), r.Intn(3)))
		}
	}
	return l
}

// comesFirst reports whether s stands before t in the order of the ties.
func comesFirst(s, t api.Tie) bool {
	x := []int{s.Cost, s.A.Image, s.A.Feature, s.B.Image, s.B.Feature}
	y := []int{t.Cost, t.A.Image, t.A.Feature, t.B.Image, t.B.Feature}
	return slices.Compare(x, y) < 0
}

// sorted are the ties in their order, each once: the first one that is left is taken again and again.
func sorted(ties []api.Tie) []api.Tie {
	left := slices.Clone(ties)
	var l []api.Tie
	for len(left) > 0 {
		first := left[0]
		for _, t := range left {
			if comesFirst(t, first) {
				first = t
			}
		}
		l = append(l, first)
		left = slices.DeleteFunc(left, func(t api.Tie) bool { return t == first })
	}
	return l
}

// parts are sets of marks; each mark lies in one of them.
type parts []map[api.Mark]bool

// of is the index of the set of a mark.
func (p parts) of(m api.Mark) int {
	return slices.IndexFunc(p, func(set map[api.Mark]bool) bool { return set[m] })
}

// fit reports whether two sets have no image in common.
func fit(a, b map[api.Mark]bool) bool {
	for m := range a {
		for n := range b {
			if m.Image == n.Image {
				return false
			}
		}
	}
	return true
}

// chaining are the sets that the definition leads to.
func chaining(ties []api.Tie) parts {
	var p parts
	for _, t := range ties {
		for _, m := range []api.Mark{t.A, t.B} {
			if p.of(m) < 0 {
				p = append(p, map[api.Mark]bool{m: true})
			}
		}
	}
	for _, t := range sorted(ties) {
		a, b := p.of(t.A), p.of(t.B)
		if a == b || !fit(p[a], p[b]) {
			continue
		}
		for m := range p[b] {
			p[a][m] = true
		}
		p = slices.Delete(p, b, b+1)
	}
	return p
}

// precedes reports whether a is below b in the order of marks.
func precedes(a, b api.Mark) bool {
	return a.Image < b.Image || a.Image == b.Image && a.Feature < b.Feature
}

// compare is the order of marks.
func compare(a, b api.Mark) int {
	if precedes(a, b) {
		return -1
	}
	if precedes(b, a) {
		return 1
	}
	return 0
}

// tracks are the sets with at least two marks, in their order.
func (p parts) tracks() [][]api.Mark {
	var l [][]api.Mark
	for _, set := range p {
		var marks []api.Mark
		for m := range set {
			marks = append(marks, m)
		}
		slices.SortFunc(marks, compare)
		if len(marks) > 1 {
			l = append(l, marks)
		}
	}
	slices.SortFunc(l, func(a, b []api.Mark) int { return compare(a[0], b[0]) })
	return l
}

// refused are the ties whose marks lie in different sets.
func (p parts) refused(ties []api.Tie) []api.Tie {
	var l []api.Tie
	for _, t := range sorted(ties) {
		if p.of(t.A) != p.of(t.B) {
			l = append(l, t)
		}
	}
	return l
}

// same reports whether two lists of tracks are equal.
func same(a, b [][]api.Mark) bool { return slices.EqualFunc(a, b, slices.Equal[[]api.Mark]) }

// copied are tracks in new memory.
func copied(tracks [][]api.Mark) [][]api.Mark {
	l := make([][]api.Mark, len(tracks))
	for i, marks := range tracks {
		l[i] = slices.Clone(marks)
	}
	return l
}

// far are numbers out of the range from 0 to most.
func far(most int) []int { return []int{-1, most + 1, math.MinInt, math.MaxInt} }

// outside are ties with a number out of its range; the order of the images is right in some of them.
func outside() []api.Tie {
	var l []api.Tie
	for _, x := range far(maxImages - 1) {
		l = append(l, tie(mark(x, 1), mark(5, 1), 1), tie(mark(5, 1), mark(x, 1), 1))
	}
	for _, x := range far(maxFeature) {
		l = append(l, tie(mark(2, x), mark(5, 1), 1), tie(mark(2, 1), mark(5, x), 1))
	}
	for _, x := range far(maxCost) {
		l = append(l, tie(mark(2, 1), mark(5, 1), x))
	}
	return append(l, tie(mark(-1, 0), mark(-1, 0), 0), tie(mark(5, 0), mark(5, -1), 0))
}

// reversed are ties whose images are not in their order.
func reversed() []api.Tie {
	return []api.Tie{{}, tie(mark(5, 1), mark(5, 2), 0), tie(mark(5, 1), mark(4, 2), 9), tie(mark(63, 0), mark(0, 4095), maxCost)}
}
