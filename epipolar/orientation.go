package epipolar

import (
	"slices"

	"fiducial/api"
	"fiducial/fraction"
	"fiducial/integer"
	"fiducial/rotation"
)

// OfStations returns the fundamental matrix of two stations.
func OfStations(a, b api.Station) (api.Matrix, api.Code) {
	if code := checkStations(a, b); code != api.OK {
		return nil, code
	}
	if a.At == b.At {
		return nil, api.ErrDegenerate
	}
	base := skew(vector(row(b.At.X-a.At.X, b.At.Y-a.At.Y, b.At.Z-a.At.Z)))
	return toObject(b).transposed().by(base).by(toObject(a)).canonical().matrix(), api.OK
}

// Essential returns the essential matrix of a fundamental matrix and the inner orientations of two stations.
func Essential(f api.Matrix, a, b api.Station) (api.Matrix, api.Code) {
	m, ok := squareOf(f)
	if !ok {
		return nil, api.ErrArgument
	}
	if code := checkStations(a, b); code != api.OK {
		return nil, code
	}
	return inner(b).transposed().by(m).by(inner(a)).canonical().matrix(), api.OK
}

// IsEssential reports whether e is a multiple of the product of a skew matrix and a rotation.
func IsEssential(e api.Matrix) (bool, api.Code) {
	m, ok := squareOf(e)
	if !ok {
		return false, api.ErrArgument
	}
	return m.isEssential(), api.OK
}

// Decompose returns the four relative orientations of an essential matrix.
func Decompose(e api.Matrix) ([]api.Pose, api.Code) {
	m, ok := squareOf(e)
	if !ok {
		return nil, api.ErrArgument
	}
	if !m.isEssential() {
		return nil, api.ErrOutside
	}
	base := m.base()
	u := vector{whole(base[0]), whole(base[1]), whole(base[2])}
	length := u.dot(u)
	// The rest of half the trace is k^2 u u^T, whose trace is half of that of e e^T.
	k, ok := root(fraction.Mul(m.rest().trace(), inverse(length)))
	if !ok {
		return nil, api.ErrOutside
	}
	var poses []api.Pose
	for _, k := range [2]api.Rat{fraction.Neg(k), k} {
		r := m.cofactors().scaled(inverse(fraction.Mul(k, k))).plus(skew(u).by(m).scaled(inverse(k)))
		turn, code := rotation.OfMatrix(r.scaled(inverse(length)).matrix())
		if code != api.OK {
			return nil, code
		}
		poses = append(poses, api.Pose{Turn: turn, Base: times(1, base)}, api.Pose{Turn: turn, Base: times(-1, base)})
	}
	return poses, api.OK
}

// checkStations returns OK if stations are valid.
func checkStations(l ...api.Station) api.Code {
	isStill := func(s api.Station) bool { return s.Turn == api.Quat{} }
	isOutside := func(s api.Station) bool {
		areInside := areCoordinates(s.At.X, s.At.Y, s.At.Z, s.Centre.X, s.Centre.Y, s.Turn.A, s.Turn.B, s.Turn.C, s.Turn.D)
		return !areInside || s.Focal < 1 || s.Focal > api.MaxFocal
	}
	switch {
	case slices.ContainsFunc(l, isStill):
		return api.ErrArgument
	case slices.ContainsFunc(l, isOutside):
		return api.ErrRange
	}
	return api.OK
}

// inner returns the matrix K of a station.
func inner(s api.Station) square {
	return ofRow(row(s.Focal, 0, s.Centre.X, 0, s.Focal, s.Centre.Y, 0, 0, 1))
}

// toObject returns the matrix that takes image points to directions in the object's frame: M K^-1, multiplied by the focal length.
func toObject(s api.Station) square {
	toCamera := ofRow(row(1, 0, -s.Centre.X, 0, 1, -s.Centre.Y, 0, 0, s.Focal))
	turn, _ := rotation.Matrix(s.Turn)
	return ofRow(slices.Concat(turn...)).by(toCamera)
}

// isEssential reports whether m is an essential matrix. That the determinant is 0 follows from the equation: each singular value is 0 or the root of half the trace t, which is the sum of their squares, so that exactly one of them is 0.
func (m square) isEssential() bool {
	// Integers are faster, and all multiples are essential or none.
	m = m.canonical()
	return m.rest().by(m).isZero()
}

// rest returns t/2 I - m m^T, where t is the trace of m m^T.
func (m square) rest() square {
	product := m.by(m.transposed())
	half := fraction.Mul(product.trace(), inverse(fraction.Whole(2)))
	zero := fraction.Whole(0)
	diagonal := square{{half, zero, zero}, {zero, half, zero}, {zero, zero, half}}
	return diagonal.plus(product.scaled(fraction.Whole(-1)))
}

// base returns the vector u of an essential matrix: each row of the rest is a multiple of it.
func (m square) base() [3]api.Int {
	rest := m.rest()
	i := 0
	for i < 2 && fraction.Sign(rest[i][i]) == 0 {
		i++
	}
	l := primitive(rest[i][:])
	return [3]api.Int{l[0], l[1], l[2]}
}

// times returns k v, in new memory.
func times(k int, v [3]api.Int) [3]api.Int {
	factor := integer.Of(k)
	return [3]api.Int{integer.Mul(factor, v[0]), integer.Mul(factor, v[1]), integer.Mul(factor, v[2])}
}

// root returns the square root of a fraction above 0, or false if it is no fraction.
func root(x api.Rat) (api.Rat, bool) {
	num, _ := integer.Root(x.Num)
	den, _ := integer.Root(x.Den)
	r, _ := fraction.New(num, den)
	return r, fraction.Compare(fraction.Mul(r, r), x) == 0
}

// inverse returns 1 / x; x is not 0.
func inverse(x api.Rat) api.Rat {
	q, _ := fraction.Divide(fraction.Whole(1), x)
	return q
}
