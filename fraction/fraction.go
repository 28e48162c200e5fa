// Package fraction is layer 2: see shared/doc/02-fraction.md.
package fraction

import (
	"fiducial/api"
	"fiducial/integer"
)

// Valid reports whether x is canonical.
func Valid(x api.Rat) bool {
	if !integer.Valid(x.Num) || integer.Sign(x.Den) <= 0 {
		return false
	}
	if a, ok := shortOf(x); ok {
		return divisor(a.num, a.den) == 1
	}
	return isOne(x.Den) || isOne(integer.Gcd(x.Num, x.Den))
}

// Value returns x if it is canonical, otherwise 0.
func Value(x api.Rat) api.Rat {
	return copied(counted(x))
}

// Of returns n/d.
func Of(n, d int) (api.Rat, api.Code) {
	return New(integer.Of(n), integer.Of(d))
}

// New returns num/den.
func New(num, den api.Int) (api.Rat, api.Code) {
	if !integer.Valid(num) {
		num = api.Int{}
	}
	switch integer.Sign(den) {
	case 0:
		return api.Rat{}, api.ErrSingular
	case -1:
		num, den = integer.Neg(num), integer.Neg(den)
	}
	return reduced(num, den), api.OK
}

// Whole returns n.
func Whole(n int) api.Rat {
	return whole(integer.Of(n))
}

// Sign returns -1, 0 or 1.
func Sign(x api.Rat) int {
	return integer.Sign(counted(x).Num)
}

// Neg returns -x.
func Neg(x api.Rat) api.Rat {
	return negative(counted(x))
}

// Abs returns the magnitude of x.
func Abs(x api.Rat) api.Rat {
	x = counted(x)
	return api.Rat{Num: integer.Abs(x.Num), Den: copiedInt(x.Den)}
}

// Add returns x + y.
func Add(x, y api.Rat) api.Rat {
	return add(counted(x), counted(y))
}

// Sub returns x - y.
func Sub(x, y api.Rat) api.Rat {
	return add(counted(x), negative(counted(y)))
}

// Mul returns x y.
func Mul(x, y api.Rat) api.Rat {
	return multiply(counted(x), counted(y))
}

// Divide returns x / y.
func Divide(x, y api.Rat) (api.Rat, api.Code) {
	x, y = counted(x), counted(y)
	switch integer.Sign(y.Num) {
	case 0:
		return api.Rat{}, api.ErrSingular
	case -1:
		x, y = negative(x), negative(y)
	}
	return multiply(x, api.Rat{Num: y.Den, Den: y.Num}), api.OK
}

// Compare returns -1, 0 or 1.
func Compare(x, y api.Rat) int {
	return compare(counted(x), counted(y))
}

// Floor returns the greatest integer that is not above x.
func Floor(x api.Rat) api.Int {
	x = counted(x)
	return floorOf(x.Num, x.Den)
}

// Ceil returns the least integer that is not below x.
func Ceil(x api.Rat) api.Int {
	x = counted(x)
	return ceilOf(x.Num, x.Den)
}
