package radiometry

import (
	"fiducial/api"
	"fiducial/fraction"
	"fiducial/matrix"
)

const (
	maxImages = 16   // images that are given offsets
	maxCommon = 64   // parts that they have in common
	maxWeight = 4096 // weight of such a part
)

// Offsets returns the offsets of images that make common parts agree best.
func Offsets(images int, common []api.Common) ([]api.Rat, api.Code) {
	if code := checkCommon(images, common); code != api.OK {
		return nil, code
	}
	rows, right := equations(images, common)
	a, _ := matrix.Of(rows)
	// The equations leave open what is added to all offsets of a connected component: each vector of this basis has ones for the images of one component and zeros for the others.
	components, _ := matrix.Null(a)
	for _, c := range components {
		a = append(a, c)
		right = append(right, fraction.Whole(0))
	}
	return matrix.Solve(a, right)
}

// checkCommon returns OK if common parts of so many images are of the required form.
func checkCommon(images int, common []api.Common) api.Code {
	if !within(images, 1, maxImages) || len(common) > maxCommon {
		return api.ErrLimit
	}
	for _, c := range common {
		switch {
		case !within(c.A, 0, images-1) || !within(c.B, 0, images-1):
			return api.ErrRange
		case !within(c.Diff, -api.MaxGrey, api.MaxGrey) || !within(c.Weight, 1, maxWeight):
			return api.ErrRange
		case c.A == c.B:
			return api.ErrArgument
		}
	}
	return api.OK
}

// equations returns the equations for offsets at which the derivatives of the sum of Weight (o_B + Diff - o_A)^2 are 0.
func equations(images int, common []api.Common) ([][]int, []api.Rat) {
	rows, sums := make([][]int, images), make([]int, images)
	for i := range rows {
		rows[i] = make([]int, images)
	}
	for _, c := range common {
		rows[c.A][c.A] += c.Weight
		rows[c.B][c.B] += c.Weight
		rows[c.A][c.B] -= c.Weight
		rows[c.B][c.A] -= c.Weight
		sums[c.A] += c.Weight * c.Diff
		sums[c.B] -= c.Weight * c.Diff
	}
	right := make([]api.Rat, images)
	for i, n := range sums {
		right[i] = fraction.Whole(n)
	}
	return rows, right
}
