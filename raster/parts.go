package raster

import (
	"slices"

	"fiducial/api"
)

// Crop returns the part of r with the corner (x, y) and a size.
func Crop(r api.Raster, x, y, width, height int) (api.Raster, api.Code) {
	if code := Check(r); code != api.OK {
		return api.Raster{}, code
	}
	if !isPart(x, width, r.Width) || !isPart(y, height, r.Height) {
		return api.Raster{}, api.ErrRange
	}
	result := blank(width, height, r.Max)
	for j := range height {
		copy(row(result, j), row(r, y+j)[x:])
	}
	return result, api.OK
}

// isPart reports whether count elements from the index first on, at least one, are among n elements. No sum is made of the arguments, which could be too great.
func isPart(first, count, n int) bool {
	return within(first, 0, n-1) && within(count, 1, n-first)
}

// Paste returns r with s laid over it at (x, y).
func Paste(r, s api.Raster, x, y int) (api.Raster, api.Code) {
	if Check(r) != api.OK || Check(s) != api.OK {
		return api.Raster{}, api.ErrArgument
	}
	if r.Max != s.Max {
		return api.Raster{}, api.ErrMismatch
	}
	if !within(x, -api.MaxPixel, api.MaxPixel) || !within(y, -api.MaxPixel, api.MaxPixel) {
		return api.Raster{}, api.ErrRange
	}
	result := copied(r)
	// Of s the columns and rows count that lie on r.
	left, right := max(0, -x), min(s.Width, r.Width-x)
	for j := max(0, -y); j < min(s.Height, r.Height-y) && left < right; j++ {
		copy(row(result, y+j)[x+left:], row(s, j)[left:right])
	}
	return result, api.OK
}

// Turn returns r turned by a quarter, counter-clockwise.
func Turn(r api.Raster) (api.Raster, api.Code) {
	if code := Check(r); code != api.OK {
		return api.Raster{}, code
	}
	result := blank(r.Height, r.Width, r.Max)
	for y := range result.Height {
		for x := range result.Width {
			row(result, y)[x] = row(r, x)[r.Width-1-y]
		}
	}
	return result, api.OK
}

// Mirror returns r with left and right exchanged.
func Mirror(r api.Raster) (api.Raster, api.Code) {
	if code := Check(r); code != api.OK {
		return api.Raster{}, code
	}
	result := copied(r)
	for y := range r.Height {
		slices.Reverse(row(result, y))
	}
	return result, api.OK
}
