package homography

import (
	"fiducial/api"
	"fiducial/integer"
	"fiducial/raster"
)

const side = 64 // units of a pixel

// Warp returns the image of a raster under h.
func Warp(h api.Homography, r api.Raster, width, height int) (api.Raster, api.Code) {
	if !Valid(h) {
		return api.Raster{}, api.ErrArgument
	}
	if code := raster.Check(r); code != api.OK {
		return api.Raster{}, code
	}
	warped, code := raster.New(width, height, r.Max)
	if code != api.OK {
		return api.Raster{}, code
	}
	back := adjugate(h)
	for y := range height {
		for x := range width {
			centre := tripleOf(api.Pix{X: side*x + side/2, Y: side*y + side/2})
			warped.Pixels[y*width+x] = at(r, image(back, centre))
		}
	}
	return warped, api.OK
}

// at returns the grey value of the pixel in which a point lies, 0 if it lies in none.
func at(r api.Raster, p api.Triple) int {
	if isAtInfinity(p) {
		return 0
	}
	unit := integer.Mul(integer.Of(side), p[2])
	x, isColumn := index(p[0], unit, r.Width)
	y, isRow := index(p[1], unit, r.Height)
	if !isColumn || !isRow {
		return 0
	}
	return r.Pixels[y*r.Width+x]
}

// index returns the integer below x / d or equal to it, and whether it is from 0 to n - 1; d is not 0.
func index(x, d api.Int, n int) (int, bool) {
	below, _, _ := integer.Divide(x, d)
	i, ok := integer.Small(below)
	return i, ok && 0 <= i && i < n
}
