package epipolar

import (
	"slices"

	"fiducial/api"
	"fiducial/fraction"
	"fiducial/integer"
)

// square is a matrix of three rows of three canonical fractions.
type square [3][3]api.Rat

// vector is a vector of canonical fractions.
type vector [3]api.Rat

// squareOf returns a matrix as an array, or false if it is none of the described form.
func squareOf(f api.Matrix) (square, bool) {
	isOther := func(row []api.Rat) bool {
		isFlawed := func(x api.Rat) bool { return !fraction.Valid(x) }
		return len(row) != 3 || slices.ContainsFunc(row, isFlawed)
	}
	if len(f) != 3 || slices.ContainsFunc(f, isOther) {
		return square{}, false
	}
	m := ofRow(slices.Concat(f...))
	return m, !m.isZero()
}

// ofRow returns the matrix with nine entries, row by row.
func ofRow(l []api.Rat) square {
	return made(func(i, j int) api.Rat { return l[3*i+j] })
}

// made returns the matrix with the entries that a function returns.
func made(entry func(i, j int) api.Rat) square {
	var m square
	for i := range m {
		for j := range m[i] {
			m[i][j] = entry(i, j)
		}
	}
	return m
}

// skew returns the matrix of the vector product with v.
func skew(v vector) square {
	zero := fraction.Whole(0)
	return square{
		{zero, fraction.Neg(v[2]), v[1]},
		{v[2], zero, fraction.Neg(v[0])},
		{fraction.Neg(v[1]), v[0], zero},
	}
}

// entries returns the nine entries, row by row.
func (m square) entries() []api.Rat {
	return slices.Concat(m[0][:], m[1][:], m[2][:])
}

// matrix returns the rows, with the numbers of m.
func (m square) matrix() api.Matrix {
	return api.Matrix{slices.Clone(m[0][:]), slices.Clone(m[1][:]), slices.Clone(m[2][:])}
}

// canonical returns the canonical form of a matrix that is not zero, in new memory.
func (m square) canonical() square {
	l := primitive(m.entries())
	return made(func(i, j int) api.Rat { return whole(l[3*i+j]) })
}

// isZero reports whether all entries are 0.
func (m square) isZero() bool {
	isPart := func(x api.Rat) bool { return fraction.Sign(x) != 0 }
	return !slices.ContainsFunc(m.entries(), isPart)
}

// transposed returns m with rows and columns exchanged.
func (m square) transposed() square {
	return made(func(i, j int) api.Rat { return m[j][i] })
}

// times returns the product of m and v.
func (m square) times(v vector) vector {
	return vector{v.dot(m[0]), v.dot(m[1]), v.dot(m[2])}
}

// by returns the product of m and n.
func (m square) by(n square) square {
	columns := n.transposed()
	return made(func(i, j int) api.Rat { return vector(m[i]).dot(columns[j]) })
}

// scaled returns k m.
func (m square) scaled(k api.Rat) square {
	return made(func(i, j int) api.Rat { return fraction.Mul(k, m[i][j]) })
}

// plus returns m + n.
func (m square) plus(n square) square {
	return made(func(i, j int) api.Rat { return fraction.Add(m[i][j], n[i][j]) })
}

// cofactors returns the matrix of the cofactors.
func (m square) cofactors() square {
	return made(func(i, j int) api.Rat {
		// With cyclic indices the signs come by themselves.
		product := func(di, dj int) api.Rat { return fraction.Mul(m[(i+di)%3][(j+dj)%3], m[(i+3-di)%3][(j+3-dj)%3]) }
		return fraction.Sub(product(1, 1), product(1, 2))
	})
}

// trace returns the sum of the entries on the diagonal.
func (m square) trace() api.Rat {
	return fraction.Sum([]api.Rat{m[0][0], m[1][1], m[2][2]})
}

// vectorOf returns X, Y and 1.
func vectorOf(p api.Pix) vector {
	return vector{fraction.Whole(p.X), fraction.Whole(p.Y), fraction.Whole(1)}
}

// dot returns the inner product of v and w.
func (v vector) dot(w [3]api.Rat) api.Rat {
	product, _ := fraction.Dot(v[:], w[:])
	return product
}

// primitive returns the multiple of some fractions, not all 0, by integers without a common divisor above 1, the first one that is not 0 being above 0.
func primitive(l []api.Rat) []api.Int {
	common := integer.Of(1)
	for _, x := range l {
		common = integer.Mul(common, quotient(x.Den, integer.Gcd(common, x.Den)))
	}
	list := make([]api.Int, len(l))
	var divisor api.Int
	isNegative := false
	for i, x := range l {
		list[i] = integer.Mul(x.Num, quotient(common, x.Den))
		if integer.Sign(divisor) == 0 {
			isNegative = x.Num.Negative
		}
		divisor = integer.Gcd(divisor, list[i])
	}
	if isNegative {
		divisor = integer.Neg(divisor)
	}
	for i, x := range list {
		list[i] = quotient(x, divisor)
	}
	return list
}

// quotient returns the integer below x / d or equal to it; d is not 0.
func quotient(x, d api.Int) api.Int {
	q, _, _ := integer.Divide(x, d)
	return q
}

// whole returns an integer as a fraction, in new memory.
func whole(x api.Int) api.Rat {
	n, _ := fraction.New(x, integer.Of(1))
	return n
}
