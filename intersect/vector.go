package intersect

import (
	"fiducial/api"
	"fiducial/fraction"
)

// The functions of this file take vectors whose numbers are canonical, but for isCanonical.

// isCanonical reports whether all numbers of a point or direction are canonical.
func isCanonical(v [3]api.Rat) bool {
	for _, x := range v {
		if !fraction.Valid(x) {
			return false
		}
	}
	return true
}

// isZero reports whether a vector is zero.
func isZero(v [3]api.Rat) bool {
	for _, x := range v {
		if fraction.Sign(x) != 0 {
			return false
		}
	}
	return true
}

// zero returns the zero vector.
func zero() [3]api.Rat {
	return [3]api.Rat{fraction.Whole(0), fraction.Whole(0), fraction.Whole(0)}
}

// unit returns the vector with 1 at i and zeros elsewhere.
func unit(i int) [3]api.Rat {
	v := zero()
	v[i] = fraction.Whole(1)
	return v
}

// minus returns v - w.
func minus(v, w [3]api.Rat) [3]api.Rat {
	for i, x := range w {
		v[i] = fraction.Sub(v[i], x)
	}
	return v
}

// dot returns the inner product of v and w.
func dot(v, w [3]api.Rat) api.Rat {
	sum, _ := fraction.Dot(v[:], w[:])
	return sum
}

// square returns the squared length of v.
func square(v [3]api.Rat) api.Rat {
	return dot(v, v)
}

// cross returns the vector product of v and w.
func cross(v, w [3]api.Rat) [3]api.Rat {
	var product [3]api.Rat
	for i := range product {
		j, k := (i+1)%3, (i+2)%3
		product[i] = fraction.Sub(fraction.Mul(v[j], w[k]), fraction.Mul(v[k], w[j]))
	}
	return product
}

// quotient returns x / y; y is not 0.
func quotient(x, y api.Rat) api.Rat {
	q, _ := fraction.Divide(x, y)
	return q
}
