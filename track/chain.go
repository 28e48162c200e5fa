package track

import (
	"cmp"
	"slices"

	"fiducial/api"
)

// views is a set of images, a bit for each: there are at most 64.
type views uint64

// viewsOf returns the set of the images of some marks.
func viewsOf(marks []api.Mark) views {
	var set views
	for _, m := range marks {
		set |= 1 << m.Image
	}
	return set
}

// has reports whether an image is in the set.
func (s views) has(image int) bool {
	return s>>image&1 == 1
}

// chained chains ties, which are in their order. It returns all marks in ascending order, and a function that finds the number of the track of a mark: the index of the first mark of the track.
func chained(ties []api.Tie) ([]api.Mark, func(m api.Mark) int) {
	marks := marksOf(ties)
	numbers := make(map[api.Mark]int, len(marks))
	links := make([]int, len(marks))
	seen := make([]views, len(marks))
	for k, m := range marks {
		numbers[m], links[k], seen[k] = k, k, viewsOf(marks[k:k+1])
	}
	find := func(m api.Mark) int {
		k := numbers[m]
		for links[k] != k {
			// The way is made shorter for the next time.
			links[k] = links[links[k]]
			k = links[k]
		}
		return k
	}
	for _, t := range ties {
		a, b := find(t.A), find(t.B)
		// A track has images in common with itself, too.
		if seen[a]&seen[b] == 0 {
			a, b = min(a, b), max(a, b)
			links[b] = a
			seen[a] |= seen[b]
		}
	}
	return marks, find
}

// marksOf returns the marks of ties in ascending order, each once.
func marksOf(ties []api.Tie) []api.Mark {
	var marks []api.Mark
	for _, t := range ties {
		marks = append(marks, t.A, t.B)
	}
	slices.SortFunc(marks, compareMarks)
	return slices.Compact(marks)
}

// ordered returns the ties in their order, each once.
func ordered(ties []api.Tie) []api.Tie {
	list := slices.Clone(ties)
	slices.SortFunc(list, compareTies)
	return slices.Compact(list)
}

// compareTies compares by the cost, then by the marks.
func compareTies(s, t api.Tie) int {
	return cmp.Or(cmp.Compare(s.Cost, t.Cost), compareMarks(s.A, t.A), compareMarks(s.B, t.B))
}

// compareMarks compares by the image, then by the feature.
func compareMarks(m, n api.Mark) int {
	return cmp.Or(cmp.Compare(m.Image, n.Image), cmp.Compare(m.Feature, n.Feature))
}
