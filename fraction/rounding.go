package fraction

import (
	"fiducial/api"
	"fiducial/integer"
)

// Down returns the greatest multiple of 2^-k that is not above x.
func Down(x api.Rat, k int) (api.Rat, api.Code) {
	return rounded(x, k, floorOf)
}

// Up returns the least multiple of 2^-k that is not below x.
func Up(x api.Rat, k int) (api.Rat, api.Code) {
	return rounded(x, k, ceilOf)
}

// Near returns the multiple of 2^-k that is nearest to x, of two the greater one.
func Near(x api.Rat, k int) (api.Rat, api.Code) {
	return rounded(x, k, nearestTo)
}

// rounded returns x rounded to a multiple of 2^-k, by a function that rounds the quotient of two integers.
func rounded(x api.Rat, k int, round func(num, den api.Int) api.Int) (api.Rat, api.Code) {
	if k < 0 || k > api.MaxPlaces {
		return api.Rat{}, api.ErrRange
	}
	x = counted(x)
	unit := power(2, k)
	return reduced(round(integer.Mul(x.Num, unit), x.Den), unit), api.OK
}

// Root returns the multiples of 2^-k next to the square root of x.
func Root(x api.Rat, k int) (low, high api.Rat, code api.Code) {
	x = counted(x)
	if k < 0 || k > api.MaxPlaces || x.Num.Negative {
		return api.Rat{}, api.Rat{}, api.ErrRange
	}
	unit := power(2, k)
	square := integer.Mul(x.Num, integer.Mul(unit, unit))
	root, _ := integer.Root(floorOf(square, x.Den))
	low = reduced(root, unit)
	if integer.Compare(integer.Mul(integer.Mul(root, root), x.Den), square) < 0 {
		root = integer.Add(root, integer.Of(1))
	}
	return low, reduced(root, unit), api.OK
}

// power returns b to the power n; the result has at most a few hundred digits.
func power(b, n int) api.Int {
	p, _ := integer.Power(integer.Of(b), n)
	return p
}

// floorOf returns num/den, with den above 0, rounded down.
func floorOf(num, den api.Int) api.Int {
	q, _, _ := integer.Divide(num, den)
	return q
}

// ceilOf returns num/den, with den above 0, rounded up.
func ceilOf(num, den api.Int) api.Int {
	return integer.Neg(floorOf(integer.Neg(num), den))
}

// nearestTo returns the integer nearest to num/den, with den above 0, of two the greater one.
func nearestTo(num, den api.Int) api.Int {
	return floorOf(integer.Add(integer.Add(num, num), den), integer.Add(den, den))
}
