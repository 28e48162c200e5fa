package corner

import "fiducial/api"

// half is half the width of a pixel, in the unit of positions.
const half = 32

// Offset returns the position of the greatest value of a parabola, in 1/64 of the distance of its three points.
func Offset(before, at, after int) (int, api.Code) {
	for _, n := range [3]int{before, at, after} {
		if !within(n, -maxNumber, maxNumber) {
			return 0, api.ErrRange
		}
	}
	return offset(before, at, after), api.OK
}

// offset does what Offset does, for numbers that have been checked.
func offset(before, at, after int) int {
	bend := before - 2*at + after
	if bend >= 0 {
		return 0
	}
	return min(max(nearest(half*(after-before), -bend), -half), half)
}

// nearest returns the integer nearest to num/den, with den above 0, of two the greater one.
func nearest(num, den int) int {
	num, den = 2*num+den, 2*den
	quotient := num / den
	if num%den < 0 {
		quotient--
	}
	return quotient
}
