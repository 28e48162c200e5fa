package intersect

import (
	"slices"

	"fiducial/api"
	"fiducial/fraction"
	"fiducial/matrix"
)

// Least returns the point with the least weighted sum of squared distances from the lines, and the sum.
func Least(l []api.Ray, weights []int) ([3]api.Rat, api.Rat, api.Code) {
	if code := checkWeighted(l, weights); code != api.OK {
		return [3]api.Rat{}, api.Rat{}, code
	}
	forms := make([]form, len(l))
	for k, a := range l {
		forms[k] = formOf(a, weights[k])
	}
	return total(forms).least()
}

// checkWeighted returns OK if rays with weights are of the required form.
func checkWeighted(l []api.Ray, weights []int) api.Code {
	isOutside := func(w int) bool { return w < 1 || w > api.MaxWeight }
	switch {
	case Check(l...) != api.OK:
		return api.ErrArgument
	case len(l) < 1 || len(l) > api.MaxImages:
		return api.ErrLimit
	case len(weights) != len(l):
		return api.ErrMismatch
	case slices.ContainsFunc(weights, isOutside):
		return api.ErrRange
	}
	return api.OK
}

// form is a sum of squared distances as a function of a point: the symmetric matrix that has to be multiplied from both sides by x, y, z and 1.
type form [4][4]api.Rat

// formOf returns the form of the squared distance from a line, multiplied by a weight.
func formOf(a api.Ray, weight int) form {
	// The vector from the origin of the ray to a point is the sum of these vectors, multiplied by x, y, z and 1. Its product with itself, less the square of its part along the line, is the squared distance.
	parts := [4][3]api.Rat{unit(0), unit(1), unit(2), minus(zero(), a.Origin)}
	length := square(a.Along)
	var f form
	for i, v := range parts {
		along := quotient(dot(a.Along, v), length)
		for j, w := range parts {
			across := fraction.Sub(dot(v, w), fraction.Mul(along, dot(a.Along, w)))
			f[i][j] = fraction.Mul(fraction.Whole(weight), across)
		}
	}
	return f
}

// total returns the sum of some forms. Each number is added up at once, because the sums become long.
func total(forms []form) form {
	var sum form
	for i := range sum {
		for j := range i + 1 {
			terms := make([]api.Rat, len(forms))
			for k, f := range forms {
				terms[k] = f[i][j]
			}
			sum[i][j] = fraction.Sum(terms)
			sum[j][i] = sum[i][j]
		}
	}
	return sum
}

// least returns the point at which a form is least, and its value there. There is exactly one such point unless all lines are parallel: only then a shift leaves all distances as they are.
func (f form) least() ([3]api.Rat, api.Rat, api.Code) {
	// The derivatives are 0 where the first three rows are.
	rows := api.Matrix{f[0][:3], f[1][:3], f[2][:3]}
	rest := [3]api.Rat{f[0][3], f[1][3], f[2][3]}
	negative := minus(zero(), rest)
	x, code := solve(rows, negative[:])
	if code != api.OK {
		return [3]api.Rat{}, api.Rat{}, code
	}
	point := [3]api.Rat{x[0], x[1], x[2]}
	// There only the last row is left.
	return point, fraction.Add(dot(rest, point), f[3][3]), api.OK
}

// solve returns the solution of a x = b by Cramer's rule, or ErrDegenerate if the determinant of a is 0.
func solve(a api.Matrix, b []api.Rat) ([]api.Rat, api.Code) {
	divisor, _ := matrix.Determinant(a)
	if fraction.Sign(divisor) == 0 {
		return nil, api.ErrDegenerate
	}
	x := make([]api.Rat, len(b))
	for k := range x {
		replaced := make(api.Matrix, len(a))
		for i, row := range a {
			replaced[i] = slices.Clone(row)
			replaced[i][k] = b[i]
		}
		determinant, _ := matrix.Determinant(replaced)
		x[k] = quotient(determinant, divisor)
	}
	return x, api.OK
}
