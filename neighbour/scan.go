package neighbour

import "fiducial/api"

// nearest returns the index of the nearest word of a list, which is not empty, and its distance.
func nearest(l []uint64, w uint64) (index, distance int) {
	distance = Distance(l[0], w)
	for i, v := range l {
		if d := Distance(v, w); d < distance {
			index, distance = i, d
		}
	}
	return index, distance
}

// choice is the nearest word of a list to a word.
type choice struct{ index, distance int }

// choices returns what is nearest to each word of a list in another one, which is not empty.
func choices(from, to []uint64) []choice {
	l := make([]choice, len(from))
	for i, w := range from {
		l[i].index, l[i].distance = nearest(to, w)
	}
	return l
}

// isClear reports whether the choice for w in l passes the ratio test.
func (c choice) isClear(l []uint64, w uint64, num, den int) bool {
	for i, v := range l {
		if i != c.index && c.distance*den > num*Distance(v, w) {
			return false
		}
	}
	return true
}

// matches returns the mutual matches of two lists that pass the ratio test.
func matches(a, b []uint64, num, den int) []api.Match {
	if len(a) == 0 || len(b) == 0 {
		return nil
	}
	var l []api.Match
	back := choices(b, a)
	for i, c := range choices(a, b) {
		d := back[c.index]
		if d.index == i && c.isClear(b, a[i], num, den) && d.isClear(a, b[c.index], num, den) {
			l = append(l, api.Match{First: i, Second: c.index, Distance: c.distance})
		}
	}
	return l
}
