package homography

import (
	"fiducial/api"
	"fiducial/fraction"
	"fiducial/integer"
)

// numbers are the lists of homogeneous numbers: their multiples stand for the same point, line or map.
type numbers interface{ api.Triple | api.Homography }

// reduced returns the multiple of n, not all 0, that is reduced, in new memory.
func reduced[N numbers](n N) N {
	divisor := commonDivisor(n)
	for i := range len(n) {
		n[i], _, _ = integer.Divide(n[i], divisor)
	}
	return n
}

// isReduced reports whether all numbers are canonical, and n is reduced.
func isReduced[N numbers](n N) bool {
	for i := range len(n) {
		if !integer.Valid(n[i]) {
			return false
		}
	}
	return integer.Compare(commonDivisor(n), integer.Of(1)) == 0
}

// commonDivisor returns the greatest common divisor of the numbers, with the sign of the first one that is not 0.
func commonDivisor[N numbers](n N) api.Int {
	var divisor api.Int
	isNegative := false
	for i := range len(n) {
		if integer.Sign(divisor) == 0 {
			isNegative = integer.Sign(n[i]) < 0
		}
		divisor = integer.Gcd(divisor, n[i])
	}
	if isNegative {
		return integer.Neg(divisor)
	}
	return divisor
}

// scaled returns some canonical fractions multiplied by their least common denominator.
func scaled[N numbers](l []api.Rat) N {
	common := integer.Of(1)
	for _, x := range l {
		missing, _, _ := integer.Divide(x.Den, integer.Gcd(common, x.Den))
		common = integer.Mul(common, missing)
	}
	var n N
	for i, x := range l {
		factor, _, _ := integer.Divide(common, x.Den)
		n[i] = integer.Mul(x.Num, factor)
	}
	return n
}

// areCanonical reports whether all fractions are canonical.
func areCanonical(l ...api.Rat) bool {
	for _, x := range l {
		if !fraction.Valid(x) {
			return false
		}
	}
	return true
}

// sum returns the sum of some numbers.
func sum(terms ...api.Int) api.Int {
	var total api.Int
	for _, x := range terms {
		total = integer.Add(total, x)
	}
	return total
}
