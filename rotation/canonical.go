package rotation

import (
	"cmp"

	"fiducial/api"
	"fiducial/fraction"
	"fiducial/integer"
	"fiducial/matrix"
)

// components returns the components of a quaternion.
func components(q api.Quat) [4]int {
	return [4]int{q.A, q.B, q.C, q.D}
}

// norm returns the norm of a valid quaternion.
func norm(q api.Quat) int {
	return q.A*q.A + q.B*q.B + q.C*q.C + q.D*q.D
}

// canonical returns the canonical quaternion of one that is not zero and whose components are far from the greatest int.
func canonical(q api.Quat) api.Quat {
	divisor := 0
	for _, x := range components(q) {
		divisor = commonDivisor(x, divisor)
	}
	if first := cmp.Or(q.A, q.B, q.C, q.D); first < 0 {
		divisor = -divisor
	}
	return api.Quat{A: q.A / divisor, B: q.B / divisor, C: q.C / divisor, D: q.D / divisor}
}

// commonDivisor returns the greatest common divisor of x and y.
func commonDivisor(x, y int) int {
	for y != 0 {
		x, y = y, x%y
	}
	return max(x, -x)
}

// limited returns q, or ErrLimit if a component is too large.
func limited(q api.Quat) (api.Quat, api.Code) {
	if code := Check(q); code != api.OK {
		return api.Quat{}, code
	}
	return q, api.OK
}

// ofFractions returns the canonical quaternion of four canonical fractions, of which one is not 0.
func ofFractions(q [4]api.Rat) (api.Quat, api.Code) {
	common := integer.Of(1)
	for _, x := range q {
		common = integer.Mul(common, x.Den)
	}
	var whole [4]api.Int
	var divisor api.Int
	for i, x := range q {
		whole[i] = integer.Mul(x.Num, quotient(common, x.Den))
		divisor = integer.Gcd(divisor, whole[i])
	}
	var parts [4]int
	for i, x := range whole {
		part, ok := integer.Small(quotient(x, divisor))
		if !ok || part < -limit || part > limit {
			return api.Quat{}, api.ErrLimit
		}
		parts[i] = part
	}
	return canonical(api.Quat{A: parts[0], B: parts[1], C: parts[2], D: parts[3]}), api.OK
}

// quotient returns x / d, which is an integer.
func quotient(x, d api.Int) api.Int {
	q, _, _ := integer.Divide(x, d)
	return q
}

// allValid reports whether all four fractions are canonical.
func allValid(q [4]api.Rat) bool {
	for _, x := range q {
		if !fraction.Valid(x) {
			return false
		}
	}
	return true
}

// isZero reports whether all four fractions are 0.
func isZero(q [4]api.Rat) bool {
	for _, x := range q {
		if fraction.Sign(x) != 0 {
			return false
		}
	}
	return true
}

// isRotation reports whether a matrix of three rows and columns is a rotation.
func isRotation(m api.Matrix) bool {
	transposed, _ := matrix.Transpose(m)
	square, _ := matrix.Mul(m, transposed)
	unit, _ := matrix.Identity(3)
	for i, row := range unit {
		for j, x := range row {
			if fraction.Compare(square[i][j], x) != 0 {
				return false
			}
		}
	}
	determinant, _ := matrix.Determinant(m)
	return fraction.Sign(determinant) > 0
}

// candidates returns four multiples of the quaternion of a rotation matrix: 4 A, 4 B, 4 C and 4 D times the one of norm 1. Some of them may be zero, but not all: the numbers on the diagonal add up to 4.
func candidates(m api.Matrix) [4][4]api.Rat {
	one := fraction.Whole(1)
	sum := func(i, j int) api.Rat { return fraction.Add(m[i][j], m[j][i]) }
	difference := func(i, j int) api.Rat { return fraction.Sub(m[i][j], m[j][i]) }
	square := func(x, y, z api.Rat) api.Rat { return fraction.Sum([]api.Rat{one, x, y, z}) }
	x, y, z := m[0][0], m[1][1], m[2][2]
	return [4][4]api.Rat{
		{square(x, y, z), difference(2, 1), difference(0, 2), difference(1, 0)},
		{difference(2, 1), square(x, fraction.Neg(y), fraction.Neg(z)), sum(0, 1), sum(0, 2)},
		{difference(0, 2), sum(0, 1), square(fraction.Neg(x), y, fraction.Neg(z)), sum(1, 2)},
		{difference(1, 0), sum(0, 2), sum(1, 2), square(fraction.Neg(x), fraction.Neg(y), z)},
	}
}
