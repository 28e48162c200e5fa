package descriptor

import (
	"slices"

	"fiducial/api"
	"fiducial/raster"
)

// sums is the table of a raster from which the sum of any rectangle follows.
type sums [][]int

// sumsOf returns the table of r, which is a raster.
func sumsOf(r api.Raster) sums {
	table, _ := raster.Integral(r)
	return table
}

// box returns the sum of a box of the feature at (x, y). ErrOutside: the raster has not all its pixels.
func (s sums) box(b [4]int, x, y int) (int, api.Code) {
	sum, code := raster.Sum(s, x+b[0], y+b[1], b[2], b[3])
	if code != api.OK {
		return 0, api.ErrOutside
	}
	return sum, api.OK
}

// word returns the word of the feature at (x, y).
func (s sums) word(p []Test, x, y int) (uint64, api.Code) {
	var word uint64
	for i, t := range p {
		a, codeA := s.box(t.A, x, y)
		b, codeB := s.box(t.B, x, y)
		if codeA != api.OK || codeB != api.OK {
			return 0, api.ErrOutside
		}
		// The means are compared without a division: each sum is multiplied by the number of pixels of the other one.
		if a*size(t.B) < b*size(t.A) {
			word |= 1 << i
		}
	}
	return word, api.OK
}

// size returns the number of pixels of a box.
func size(b [4]int) int { return b[2] * b[3] }

// brightest returns the number of the side of the feature at (x, y) that has the greatest sum.
func (s sums) brightest(x, y, n int) (int, api.Code) {
	var values [4]int
	for i, side := range sides(n) {
		sum, code := s.box(side, x, y)
		if code != api.OK {
			return 0, code
		}
		values[i] = sum
	}
	best := slices.Index(values[:], slices.Max(values[:]))
	if slices.Contains(values[best+1:], values[best]) {
		return 0, api.ErrDegenerate
	}
	return best, api.OK
}

// sides returns the sides of a feature in their order, as boxes.
func sides(n int) [4][4]int {
	long := 2*n + 1
	return [4][4]int{{1, -n, n, long}, {-n, -n, long, n}, {-n, -n, n, long}, {-n, 1, long, n}}
}
