package polynomial

import (
	"fiducial/api"
	"fiducial/fraction"
	"fiducial/whole"
)

// mostHalvings is the greatest number of halvings that Refine makes.
const mostHalvings = 200

// Bound returns a number that is greater than the magnitudes of all roots of p.
func Bound(p api.Poly) (api.Rat, api.Code) {
	n := Degree(p)
	if n < 0 {
		return api.Rat{}, api.ErrSingular
	}
	ratios := make([]api.Rat, n)
	for i := range ratios {
		ratio, _ := fraction.Divide(p[i], p[n])
		ratios[i] = fraction.Abs(ratio)
	}
	// Without ratios it counts as 0.
	greatest, _ := fraction.Greatest(ratios)
	return fraction.Add(greatest, fraction.Whole(1)), api.OK
}

// end is an end of an interval, with the variations there.
type end struct {
	at         api.Rat
	variations int
}

// Isolate returns intervals that contain one real root of p each, in ascending order.
func Isolate(p api.Poly) ([]api.Root, api.Code) {
	bound, code := Bound(p)
	if code != api.OK {
		return nil, code
	}
	s := sequenceOf(p)
	endAt := func(x api.Rat) end { return end{x, s.variations(x)} }
	var roots []api.Root
	var divide func(low, high end)
	divide = func(low, high end) {
		switch low.variations - high.variations {
		case 0:
		case 1:
			roots = append(roots, rootIn(low.at, high.at))
		default:
			middle := endAt(middleOf(low.at, high.at))
			divide(low, middle)
			divide(middle, high)
		}
	}
	divide(endAt(fraction.Neg(bound)), endAt(bound))
	return roots, api.OK
}

// Refine returns an isolating interval after k halvings.
func Refine(p api.Poly, r api.Root, k int) (api.Root, api.Code) {
	low, high := fraction.Value(r.Low), fraction.Value(r.High)
	switch {
	case Degree(p) < 0:
		return api.Root{}, api.ErrSingular
	case k < 0 || k > mostHalvings:
		return api.Root{}, api.ErrRange
	case fraction.Compare(low, high) > 0:
		return api.Root{}, api.ErrOrder
	}
	s := sequenceOf(p)
	if !s.isolates(low, high) {
		return api.Root{}, api.ErrMissing
	}
	return rootIn(s.halved(low, high, k)), api.OK
}

// isolates reports whether the interval from low to high contains exactly one root.
func (s sequence) isolates(low, high api.Rat) bool {
	if fraction.Compare(low, high) == 0 {
		return whole.Sign(s[0], low) == 0
	}
	return s.count(low, high) == 1
}

// halved halves an isolating interval k times. The first element of the sequence has no multiple roots: it changes its sign at the root, and nowhere else in the interval.
func (s sequence) halved(low, high api.Rat, k int) (api.Rat, api.Rat) {
	side := func(x api.Rat) int { return whole.Sign(s[0], x) }
	above := side(high)
	if above == 0 {
		return high, high
	}
	for range k {
		middle := middleOf(low, high)
		switch side(middle) {
		case 0:
			// It stays the upper end of all halves that are still to be taken.
			return middle, middle
		case above:
			high = middle
		default:
			low = middle
		}
	}
	return low, high
}

// middleOf returns the middle between x and y.
func middleOf(x, y api.Rat) api.Rat {
	middle, _ := fraction.Divide(fraction.Add(x, y), fraction.Whole(2))
	return middle
}

// rootIn returns the root in the interval from low to high, in new memory.
func rootIn(low, high api.Rat) api.Root {
	return api.Root{Low: fraction.Value(low), High: fraction.Value(high)}
}
