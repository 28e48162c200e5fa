package predicate

import (
	"slices"

	"fiducial/api"
	"fiducial/plane"
)

// maxHull is the greatest number of points of which Hull takes the hull.
const maxHull = 1024

// Hull returns the indices of the corners of the convex hull, counter-clockwise.
func Hull(l []api.Pix) ([]int, api.Code) {
	switch {
	case len(l) == 0:
		return nil, api.ErrArgument
	case len(l) > maxHull:
		return nil, api.ErrLimit
	}
	if code := Check(l...); code != api.OK {
		return nil, code
	}
	order := distinct(l)
	if len(order) == 1 {
		return order, api.OK
	}
	lower := chain(l, order)
	slices.Reverse(order)
	upper := chain(l, order)
	// Each chain ends where the other one begins.
	return slices.Concat(lower[:len(lower)-1], upper[:len(upper)-1]), api.OK
}

// distinct returns the indices of the points in lexicographic order, of equal points the first one.
func distinct(l []api.Pix) []int {
	order := make([]int, len(l))
	for i := range order {
		order[i] = i
	}
	slices.SortStableFunc(order, func(i, k int) int { return plane.Compare(l[i], l[k]) })
	return slices.CompactFunc(order, func(i, k int) bool { return l[i] == l[k] })
}

// chain returns the corners of the hull from the first point of an order to the last one, along the right side of the line through these two.
func chain(l []api.Pix, order []int) []int {
	var corners []int
	for _, i := range order {
		n := len(corners)
		for n >= 2 && plane.Turn(l[corners[n-2]], l[corners[n-1]], l[i]) <= 0 {
			n--
		}
		corners = append(corners[:n], i)
	}
	return corners
}
