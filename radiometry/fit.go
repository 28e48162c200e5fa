package radiometry

import (
	"slices"

	"fiducial/api"
	"fiducial/fraction"
)

// maxValues is the greatest number of values in a list.
const maxValues = 4096

// Fit returns the gain and offset that take a to b with the least sum of squares.
func Fit(a, b []int) (gain, offset api.Rat, code api.Code) {
	if code := checkLists(a, b); code != api.OK {
		return api.Rat{}, api.Rat{}, code
	}
	n, sumA, sumB := len(a), sum(a), sum(b)
	// The divisor is 0 only if all values are equal.
	gain, code = fraction.Of(n*dot(a, b)-sumA*sumB, n*dot(a, a)-sumA*sumA)
	if code != api.OK {
		return api.Rat{}, api.Rat{}, api.ErrDegenerate
	}
	rest := fraction.Sub(fraction.Whole(sumB), fraction.Mul(gain, fraction.Whole(sumA)))
	offset, code = fraction.Divide(rest, fraction.Whole(n))
	return gain, offset, code
}

// checkLists returns OK if two lists have the same number of grey values.
func checkLists(a, b []int) api.Code {
	isOutside := func(v int) bool { return !within(v, 0, api.MaxGrey) }
	switch {
	case !within(len(a), 1, maxValues):
		return api.ErrLimit
	case len(b) != len(a):
		return api.ErrMismatch
	case slices.ContainsFunc(a, isOutside) || slices.ContainsFunc(b, isOutside):
		return api.ErrRange
	}
	return api.OK
}

// sum returns the sum of a list.
func sum(l []int) int {
	n := 0
	for _, x := range l {
		n += x
	}
	return n
}

// dot returns the sum of the products of the elements of two lists of the same length.
func dot(a, b []int) int {
	n := 0
	for i, x := range a {
		n += x * b[i]
	}
	return n
}
