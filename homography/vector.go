package homography

import (
	"fiducial/api"
	"fiducial/integer"
)

// The functions of this file take any canonical numbers, reduced or not.

// areProper reports whether all are homogeneous points or lines.
func areProper(l ...api.Triple) bool {
	for _, p := range l {
		if !Proper(p) {
			return false
		}
	}
	return true
}

// tripleOf returns the numbers X, Y and 1.
func tripleOf(p api.Pix) api.Triple {
	return api.Triple{integer.Of(p.X), integer.Of(p.Y), integer.Of(1)}
}

// isZero reports whether all numbers of p are 0.
func isZero(p api.Triple) bool {
	return len(p[0].Groups) == 0 && len(p[1].Groups) == 0 && len(p[2].Groups) == 0
}

// isAtInfinity reports whether a point, if it is one, lies at infinity.
func isAtInfinity(p api.Triple) bool {
	return integer.Sign(p[2]) == 0
}

// isOn reports whether a point is on a line.
func isOn(line, p api.Triple) bool {
	return integer.Sign(dot(line, p)) == 0
}

// dot returns the inner product of p and q.
func dot(p, q api.Triple) api.Int {
	return sum(integer.Mul(p[0], q[0]), integer.Mul(p[1], q[1]), integer.Mul(p[2], q[2]))
}

// cross returns the vector product of p and q.
func cross(p, q api.Triple) api.Triple {
	var line api.Triple
	for i := range line {
		j, k := (i+1)%3, (i+2)%3
		line[i] = integer.Sub(integer.Mul(p[j], q[k]), integer.Mul(p[k], q[j]))
	}
	return line
}

// bracket returns the determinant of the matrix with the rows p, q and r.
func bracket(p, q, r api.Triple) api.Int {
	return dot(cross(p, q), r)
}

// row returns the row i of a matrix.
func row(h api.Homography, i int) api.Triple {
	return api.Triple{h[3*i], h[3*i+1], h[3*i+2]}
}

// ofRows returns the matrix with three rows.
func ofRows(p, q, r api.Triple) api.Homography {
	return api.Homography{p[0], p[1], p[2], q[0], q[1], q[2], r[0], r[1], r[2]}
}

// transposed returns a matrix with rows and columns exchanged.
func transposed(h api.Homography) api.Homography {
	return api.Homography{h[0], h[3], h[6], h[1], h[4], h[7], h[2], h[5], h[8]}
}

// determinant returns the determinant of a matrix.
func determinant(h api.Homography) api.Int {
	return bracket(row(h, 0), row(h, 1), row(h, 2))
}

// cofactors returns the matrix of the cofactors: each row is the vector product of the two others.
func cofactors(h api.Homography) api.Homography {
	p, q, r := row(h, 0), row(h, 1), row(h, 2)
	return ofRows(cross(q, r), cross(r, p), cross(p, q))
}

// adjugate returns the matrix whose product with h is a multiple of the unit matrix.
func adjugate(h api.Homography) api.Homography {
	return transposed(cofactors(h))
}

// image returns the product of a matrix and a vector.
func image(h api.Homography, p api.Triple) api.Triple {
	return api.Triple{dot(row(h, 0), p), dot(row(h, 1), p), dot(row(h, 2), p)}
}

// product returns the product of two matrices.
func product(g, h api.Homography) api.Homography {
	columns := transposed(h)
	return transposed(ofRows(image(g, row(columns, 0)), image(g, row(columns, 1)), image(g, row(columns, 2))))
}
