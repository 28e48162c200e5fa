package interval

import (
	"fiducial/api"
	"fiducial/fraction"
)

// The functions of this file take valid intervals and canonical fractions, unless they say otherwise.

// allValid reports whether each of any intervals is valid.
func allValid(l []api.Range) bool {
	for _, a := range l {
		if !Valid(a) {
			return false
		}
	}
	return true
}

// sign returns -1, 0 or 1. It trusts that x is canonical, which would cost a common divisor each time.
func sign(x api.Rat) int {
	switch {
	case x.Num.Negative:
		return -1
	case len(x.Num.Groups) > 0:
		return 1
	}
	return 0
}

// spread returns the interval from the least of some fractions to the greatest.
func spread(l ...api.Rat) api.Range {
	low, _ := fraction.Least(l)
	high, _ := fraction.Greatest(l)
	return api.Range{Low: low, High: high}
}

// apart reports whether a and b have no element in common.
func apart(a, b api.Range) bool {
	return fraction.Compare(a.High, b.Low) < 0 || fraction.Compare(b.High, a.Low) < 0
}

// negative returns the negatives of the elements of a.
func negative(a api.Range) api.Range {
	return api.Range{Low: fraction.Neg(a.High), High: fraction.Neg(a.Low)}
}

// magnitudes returns the absolute values of the elements of a.
func magnitudes(a api.Range) api.Range {
	m := spread(fraction.Abs(a.Low), fraction.Abs(a.High))
	if sign(a.Low) < 0 && sign(a.High) > 0 {
		m.Low = fraction.Whole(0)
	}
	return m
}

// inverses returns the inverses of the elements of a, of which none is 0.
func inverses(a api.Range) api.Range {
	low, _ := fraction.Divide(fraction.Whole(1), a.High)
	high, _ := fraction.Divide(fraction.Whole(1), a.Low)
	return api.Range{Low: low, High: high}
}

// product returns the products of elements of a and b. Two products of ends suffice unless both have elements of both signs.
func product(a, b api.Range) api.Range {
	switch {
	case sign(b.Low) >= 0:
		return stretched(a, b)
	case sign(b.High) <= 0:
		return stretched(negative(a), negative(b))
	case sign(a.Low) >= 0:
		return stretched(b, a)
	case sign(a.High) <= 0:
		return stretched(negative(b), negative(a))
	}
	return spread(fraction.Mul(a.Low, b.Low), fraction.Mul(a.Low, b.High), fraction.Mul(a.High, b.Low), fraction.Mul(a.High, b.High))
}

// stretched returns the products of elements of a and b, which has none below 0.
func stretched(a, b api.Range) api.Range {
	down, up := b.Low, b.High
	if sign(a.Low) < 0 {
		down = b.High
	}
	if sign(a.High) < 0 {
		up = b.Low
	}
	return api.Range{Low: fraction.Mul(a.Low, down), High: fraction.Mul(a.High, up)}
}

// rounding returns a multiple of a power of 1/2 next to a number.
type rounding func(x api.Rat) (api.Rat, api.Code)

// outward returns the interval from one rounding of the low end of a to another one of its high end. It takes any a.
func outward(a api.Range, down, up rounding) (api.Range, api.Code) {
	if !Valid(a) {
		return api.Range{}, api.ErrArgument
	}
	low, code := down(a.Low)
	if code != api.OK {
		return api.Range{}, code
	}
	// The high end is not below the low one, for which there was no error.
	high, _ := up(a.High)
	return api.Range{Low: low, High: high}, api.OK
}

// places is a number of binary places, whose methods are roundings.
type places int

func (k places) down(x api.Rat) (api.Rat, api.Code) { return fraction.Down(x, int(k)) }

func (k places) up(x api.Rat) (api.Rat, api.Code) { return fraction.Up(x, int(k)) }

func (k places) rootDown(x api.Rat) (api.Rat, api.Code) {
	low, _, code := fraction.Root(x, int(k))
	return low, code
}

func (k places) rootUp(x api.Rat) (api.Rat, api.Code) {
	_, high, code := fraction.Root(x, int(k))
	return high, code
}
