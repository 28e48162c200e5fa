package shutter

import (
	"fiducial/api"
	"fiducial/fraction"
)

// vector is a vector of space.
type vector [3]api.Rat

// whole returns the vector with three integers.
func whole(x, y, z int) vector {
	return vector{fraction.Whole(x), fraction.Whole(y), fraction.Whole(z)}
}

// spot returns the vector to a point.
func spot(p api.Spot) vector {
	return whole(p.X, p.Y, p.Z)
}

// plus returns a + b.
func (a vector) plus(b vector) vector {
	for i, x := range b {
		a[i] = fraction.Add(a[i], x)
	}
	return a
}

// minus returns a - b.
func (a vector) minus(b vector) vector {
	for i, x := range b {
		a[i] = fraction.Sub(a[i], x)
	}
	return a
}

// times returns a multiplied by a number.
func (a vector) times(factor api.Rat) vector {
	for i, x := range a {
		a[i] = fraction.Mul(factor, x)
	}
	return a
}

// dot returns the inner product of a and b.
func (a vector) dot(b vector) api.Rat {
	sum, _ := fraction.Dot(a[:], b[:])
	return sum
}
