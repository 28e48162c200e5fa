package correlate

import (
	"fiducial/api"
	"fiducial/fraction"
)

// offset returns where the parabola through three scores, at -1, 0 and 1, has its greatest value, and whether the middle score is a peak: none is greater, and at most one as great.
func offset(l, m, r api.Rat) (api.Rat, bool) {
	left, right := fraction.Sub(l, m), fraction.Sub(r, m)
	if fraction.Sign(left) > 0 || fraction.Sign(right) > 0 {
		return api.Rat{}, false
	}
	bend := fraction.Add(left, right)
	quotient, code := fraction.Divide(fraction.Sub(left, right), fraction.Add(bend, bend))
	return quotient, code == api.OK
}
