package shutter

import (
	"fiducial/api"
	"fiducial/fraction"
)

// checked returns the code of Check, then ErrRange unless the other numbers are in their ranges, then ErrArgument unless all coordinates are canonical.
func checked(s api.Shutter, rows int, inRange bool, coordinates ...api.Rat) api.Code {
	if code := Check(s, rows); code != api.OK {
		return code
	}
	if !inRange {
		return api.ErrRange
	}
	for _, x := range coordinates {
		if !fraction.Valid(x) {
			return api.ErrArgument
		}
	}
	return api.OK
}

// within reports whether n is from low to high.
func within(n, low, high int) bool {
	return low <= n && n <= high
}

// isBounded reports whether all numbers have a magnitude of at most most.
func isBounded(most int, numbers ...int) bool {
	for _, n := range numbers {
		if !within(n, -most, most) {
			return false
		}
	}
	return true
}

// isRow reports whether an image can have this row.
func isRow(row int) bool {
	return within(row, 0, api.MaxPixel-1)
}

// rowOf returns the row of an image point.
func rowOf(at api.Pix) int {
	// A quotient would not be rounded down above the first row.
	return at.Y >> pixelBits
}

// isInImage reports whether at is an image point in a row that an image can have, so that Y is far from the limit of coordinates.
func isInImage(at api.Pix) bool {
	return isBounded(api.MaxCoord, at.X) && isRow(rowOf(at))
}

// isEpoch reports whether the numbers of an epoch are in their ranges.
func isEpoch(e api.Epoch) bool {
	return isBounded(MaxTime, e.Time) && isBounded(api.MaxCoord, e.At.X, e.At.Y, e.At.Z) && isBounded(MaxPart, e.Turn.A, e.Turn.B, e.Turn.C, e.Turn.D)
}

// isView reports whether the numbers of a camera and the height of a plane are in their ranges.
func isView(c Camera, height int) bool {
	return within(c.Focal, 1, api.MaxFocal) && isBounded(api.MaxCoord, c.Centre.X, c.Centre.Y, height)
}
