package shutter

import (
	"fiducial/api"
	"fiducial/fraction"
)

// signs are the signs of the entries of the matrix of a quaternion. Each entry is a sum of four products of two parts, and with rows, columns and parts numbered from 0 on, that in row i and column j has the products of the parts k and k ^ (i + 1) ^ (j + 1), for each k, with the signs signs[i][j][k].
var signs = [3][3][4]int{
	{{1, 1, -1, -1}, {-1, 1, 1, -1}, {1, 1, 1, 1}},
	{{1, 1, 1, 1}, {1, -1, 1, -1}, {-1, -1, 1, 1}},
	{{-1, 1, -1, 1}, {1, 1, 1, 1}, {1, -1, -1, 1}},
}

// partsOf returns the parts of a quaternion.
func partsOf(q api.Quat) [4]int {
	return [4]int{q.A, q.B, q.C, q.D}
}

// reduced returns q divided by the greatest common divisor of its parts, if it is not zero.
func reduced(q api.Quat) api.Quat {
	divisor := 0
	for _, part := range partsOf(q) {
		divisor = commonDivisor(part, divisor)
	}
	if divisor == 0 {
		return q
	}
	return api.Quat{A: q.A / divisor, B: q.B / divisor, C: q.C / divisor, D: q.D / divisor}
}

// commonDivisor returns the greatest common divisor of x and y.
func commonDivisor(x, y int) int {
	for y != 0 {
		x, y = y, x%y
	}
	return max(x, -x)
}

// conjugate returns the conjugate of q.
func conjugate(q api.Quat) api.Quat {
	return api.Quat{A: q.A, B: -q.B, C: -q.C, D: -q.D}
}

// turned returns v multiplied by the matrix of q.
func turned(q api.Quat, v vector) vector {
	var result vector
	for i := range result {
		var row vector
		for j := range row {
			row[j] = entry(q, i, j)
		}
		result[i] = row.dot(v)
	}
	return result
}

// entry returns the entry of the matrix of q in row i and column j. Its parts may be so great that their products do not fit into an int.
func entry(q api.Quat, i, j int) api.Rat {
	parts := partsOf(q)
	var products [4]api.Rat
	for k, sign := range signs[i][j] {
		products[k] = fraction.Mul(fraction.Whole(sign*parts[k]), fraction.Whole(parts[k^(i+1)^(j+1)]))
	}
	return fraction.Sum(products[:])
}
