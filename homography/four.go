package homography

import (
	"fiducial/api"
	"fiducial/integer"
)

// Four returns the homography that takes four points to four points.
func Four(pairs [4]api.Pair) (api.Homography, api.Code) {
	var from, to [4]api.Triple
	for i, p := range pairs {
		if !inRange(p) {
			return api.Homography{}, api.ErrRange
		}
		from[i], to[i] = tripleOf(p.From), tripleOf(p.To)
	}
	first, ok := frame(from)
	second, isToo := frame(to)
	if !ok || !isToo {
		return api.Homography{}, api.ErrDegenerate
	}
	return reduced(product(second, adjugate(first))), api.OK
}

// frame returns the matrix that takes the three unit vectors and their sum to multiples of four points, or false if three of the points lie on a line.
func frame(p [4]api.Triple) (api.Homography, bool) {
	// By Cramer's rule the last point, multiplied by the determinant of the others, is the sum of the others multiplied by these factors: the determinants with the last point in their places.
	factors := [3]api.Int{bracket(p[3], p[1], p[2]), bracket(p[0], p[3], p[2]), bracket(p[0], p[1], p[3])}
	isApart := integer.Sign(bracket(p[0], p[1], p[2])) != 0
	var columns [3]api.Triple
	for k, factor := range factors {
		isApart = isApart && integer.Sign(factor) != 0
		for i, x := range p[k] {
			columns[k][i] = integer.Mul(factor, x)
		}
	}
	return transposed(ofRows(columns[0], columns[1], columns[2])), isApart
}

// inRange reports whether the coordinates of a pair are in their ranges.
func inRange(p api.Pair) bool {
	for _, x := range [...]int{p.From.X, p.From.Y, p.To.X, p.To.Y} {
		if x < -api.MaxCoord || x > api.MaxCoord {
			return false
		}
	}
	return true
}
