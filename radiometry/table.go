package radiometry

import (
	"slices"

	"fiducial/api"
)

// maxCount is the greatest number in a histogram.
const maxCount = 1 << 18

// Table returns the table that takes a histogram to a target.
func Table(histogram, target []int) ([]int, api.Code) {
	if code := checkCounts(histogram, target); code != api.OK {
		return nil, code
	}
	all, allTarget := sum(histogram), sum(target)
	if all == 0 || allTarget == 0 {
		return nil, api.ErrDegenerate
	}
	table := make([]int, len(histogram))
	// The sums up to the grey value, and up to its value in the table; both only grow.
	up, t, upTarget := 0, 0, target[0]
	for v, n := range histogram {
		up += n
		for upTarget*all < up*allTarget {
			t++
			upTarget += target[t]
		}
		table[v] = t
	}
	return table, api.OK
}

// checkCounts returns OK if some lists can be histograms.
func checkCounts(lists ...[]int) api.Code {
	for _, l := range lists {
		if !within(len(l), 1, maxValues) {
			return api.ErrLimit
		}
	}
	for _, l := range lists {
		if slices.ContainsFunc(l, func(n int) bool { return !within(n, 0, maxCount) }) {
			return api.ErrRange
		}
	}
	return api.OK
}
