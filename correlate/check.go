package correlate

import (
	"slices"

	"fiducial/api"
	"fiducial/fraction"
	"fiducial/raster"
)

// checked returns the code of the first of two rasters, then that of the second one.
func checked(first, second api.Raster) api.Code {
	if code := raster.Check(first); code != api.OK {
		return code
	}
	return raster.Check(second)
}

// checkedShift returns the code for the arguments of Shift.
func checkedShift(a, b api.Raster, at []api.Pix, size, reach int, least api.Rat) api.Code {
	if code := checked(a, b); code != api.OK {
		return code
	}
	isOutside := func(p api.Pix) bool { return !positionsOf(size, size, a).has(p.X, p.Y) }
	switch {
	case !within(size, 1, api.MaxPixel) || !within(reach, 0, api.MaxPixel):
		return api.ErrRange
	case !fraction.Valid(least):
		return api.ErrArgument
	case len(at) > api.MaxPoints:
		return api.ErrLimit
	case slices.ContainsFunc(at, isOutside):
		return api.ErrOutside
	}
	return api.OK
}

// within reports whether n is from low to high.
func within(n, low, high int) bool {
	return low <= n && n <= high
}
