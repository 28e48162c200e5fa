package fraction

import (
	"fiducial/api"
	"fiducial/integer"
)

// Simplest returns the fraction with the least denominator between low and high.
func Simplest(low, high api.Rat) (api.Rat, api.Code) {
	low, high = counted(low), counted(high)
	switch {
	case compare(low, high) > 0:
		return api.Rat{}, api.ErrOrder
	case integer.Sign(low.Num) > 0:
		num, den := between(low.Num, low.Den, high.Num, high.Den)
		return api.Rat{Num: num, Den: den}, api.OK
	case integer.Sign(high.Num) < 0:
		num, den := between(integer.Abs(high.Num), high.Den, integer.Abs(low.Num), low.Den)
		return api.Rat{Num: integer.Neg(num), Den: den}, api.OK
	}
	return Whole(0), api.OK
}

// between returns the numerator and denominator of the simplest fraction from a/b to c/d, where all four are above 0 and a/b is at most c/d.
func between(a, b, c, d api.Int) (num, den api.Int) {
	floor, rest, _ := integer.Divide(a, b)
	if integer.Sign(rest) == 0 {
		return floor, integer.Of(1)
	}
	floorAbove, restAbove, _ := integer.Divide(c, d)
	if integer.Compare(floor, floorAbove) < 0 {
		return integer.Add(floor, integer.Of(1)), integer.Of(1)
	}
	// No integer lies between; what exceeds the floor is simplest if its inverse is.
	den, num = between(d, restAbove, b, rest)
	return integer.Add(integer.Mul(floor, den), num), den
}
