// Package interval is layer 3: see shared/doc/03-interval.md.
package interval

import (
	"fiducial/api"
	"fiducial/fraction"
)

// Valid reports whether a is a closed interval.
func Valid(a api.Range) bool {
	return fraction.Valid(a.Low) && fraction.Valid(a.High) && fraction.Compare(a.Low, a.High) <= 0
}

// Point returns the interval of x alone.
func Point(x api.Rat) (api.Range, api.Code) {
	return Make(x, x)
}

// Make returns the interval from low to high.
func Make(low, high api.Rat) (api.Range, api.Code) {
	switch {
	case !fraction.Valid(low) || !fraction.Valid(high):
		return api.Range{}, api.ErrArgument
	case fraction.Compare(low, high) > 0:
		return api.Range{}, api.ErrOrder
	}
	return api.Range{Low: fraction.Value(low), High: fraction.Value(high)}, api.OK
}

// Has reports whether x is an element of a.
func Has(a api.Range, x api.Rat) bool {
	return Valid(a) && fraction.Valid(x) && fraction.Compare(a.Low, x) <= 0 && fraction.Compare(x, a.High) <= 0
}

// Inside reports whether every element of a is an element of b.
func Inside(a, b api.Range) bool {
	return Valid(a) && Valid(b) && fraction.Compare(b.Low, a.Low) <= 0 && fraction.Compare(a.High, b.High) <= 0
}

// Strict reports whether every element of a lies between the ends of b and is neither of them.
func Strict(a, b api.Range) bool {
	return Valid(a) && Valid(b) && fraction.Compare(b.Low, a.Low) < 0 && fraction.Compare(a.High, b.High) < 0
}

// Apart reports whether a and b have no element in common.
func Apart(a, b api.Range) bool {
	return Valid(a) && Valid(b) && apart(a, b)
}

// Neg returns the negatives of the elements of a.
func Neg(a api.Range) (api.Range, api.Code) {
	if !Valid(a) {
		return api.Range{}, api.ErrArgument
	}
	return negative(a), api.OK
}

// Add returns the sums of elements of a and b.
func Add(a, b api.Range) (api.Range, api.Code) {
	if !Valid(a) || !Valid(b) {
		return api.Range{}, api.ErrArgument
	}
	return api.Range{Low: fraction.Add(a.Low, b.Low), High: fraction.Add(a.High, b.High)}, api.OK
}

// Sub returns the differences of elements of a and b.
func Sub(a, b api.Range) (api.Range, api.Code) {
	if !Valid(a) || !Valid(b) {
		return api.Range{}, api.ErrArgument
	}
	return api.Range{Low: fraction.Sub(a.Low, b.High), High: fraction.Sub(a.High, b.Low)}, api.OK
}

// Mul returns the products of elements of a and b.
func Mul(a, b api.Range) (api.Range, api.Code) {
	if !Valid(a) || !Valid(b) {
		return api.Range{}, api.ErrArgument
	}
	return product(a, b), api.OK
}

// Square returns the squares of the elements of a.
func Square(a api.Range) (api.Range, api.Code) {
	if !Valid(a) {
		return api.Range{}, api.ErrArgument
	}
	m := magnitudes(a)
	return product(m, m), api.OK
}

// Divide returns the quotients of elements of a and b.
func Divide(a, b api.Range) (api.Range, api.Code) {
	switch {
	case !Valid(a) || !Valid(b):
		return api.Range{}, api.ErrArgument
	case sign(b.Low) <= 0 && sign(b.High) >= 0:
		return api.Range{}, api.ErrSingular
	}
	return product(a, inverses(b)), api.OK
}

// Hull returns the least interval that contains a and b.
func Hull(a, b api.Range) (api.Range, api.Code) {
	if !Valid(a) || !Valid(b) {
		return api.Range{}, api.ErrArgument
	}
	return spread(a.Low, a.High, b.Low, b.High), api.OK
}

// Meet returns the elements that a and b have in common.
func Meet(a, b api.Range) (api.Range, api.Code) {
	switch {
	case !Valid(a) || !Valid(b):
		return api.Range{}, api.ErrArgument
	case apart(a, b):
		return api.Range{}, api.ErrMissing
	}
	return api.Range{Low: spread(a.Low, b.Low).High, High: spread(a.High, b.High).Low}, api.OK
}

// Round returns the least interval that contains a and whose ends are multiples of 2^-k.
func Round(a api.Range, k int) (api.Range, api.Code) {
	return outward(a, places(k).down, places(k).up)
}

// Root returns the least interval whose ends are multiples of 2^-k and that contains the square roots of the elements of a.
func Root(a api.Range, k int) (api.Range, api.Code) {
	return outward(a, places(k).rootDown, places(k).rootUp)
}

// Width returns the distance of the ends of a.
func Width(a api.Range) (api.Rat, api.Code) {
	if !Valid(a) {
		return api.Rat{}, api.ErrArgument
	}
	return fraction.Sub(a.High, a.Low), api.OK
}

// Middle returns the number halfway between the ends of a.
func Middle(a api.Range) (api.Rat, api.Code) {
	if !Valid(a) {
		return api.Rat{}, api.ErrArgument
	}
	return fraction.Divide(fraction.Add(a.Low, a.High), fraction.Whole(2))
}

// Magnitude returns the greatest absolute value of an element of a.
func Magnitude(a api.Range) (api.Rat, api.Code) {
	if !Valid(a) {
		return api.Rat{}, api.ErrArgument
	}
	return magnitudes(a).High, api.OK
}

// Sign returns -1, 0 or 1 if all elements of a have this sign, otherwise 2.
func Sign(a api.Range) int {
	if !Valid(a) || sign(a.Low) != sign(a.High) {
		return 2
	}
	return sign(a.Low)
}

// Dot returns the sums of products of elements of a and b, pair by pair.
func Dot(a, b []api.Range) (api.Range, api.Code) {
	switch {
	case !allValid(a) || !allValid(b):
		return api.Range{}, api.ErrArgument
	case len(a) != len(b):
		return api.Range{}, api.ErrMismatch
	}
	lows, highs := make([]api.Rat, len(a)), make([]api.Rat, len(a))
	for i := range a {
		p := product(a[i], b[i])
		lows[i], highs[i] = p.Low, p.High
	}
	return api.Range{Low: fraction.Sum(lows), High: fraction.Sum(highs)}, api.OK
}
