package pyramid

import (
	"slices"

	"fiducial/api"
	"fiducial/raster"
)

// maxElement is the greatest magnitude of an element of a band.
const maxElement = 1 << 20

// halves returns how many low and how many high parts a sequence of n elements has.
func halves(n int) (lows, highs int) {
	return (n + 1) / 2, n / 2
}

// isValid reports whether b has the form of the bands of a raster.
func isValid(b api.Bands) bool {
	if _, code := raster.New(b.Width, b.Height, b.Max); code != api.OK {
		return false
	}
	left, right := halves(b.Width)
	top, bottom := halves(b.Height)
	return isBand(b.Low, left*top) && isBand(b.Right, right*top) && isBand(b.Down, left*bottom) && isBand(b.Corner, right*bottom)
}

// isBand reports whether a list has n elements that are not too great.
func isBand(l []int, n int) bool {
	isOutside := func(v int) bool { return !within(v, -maxElement, maxElement) }
	return len(l) == n && !slices.ContainsFunc(l, isOutside)
}

// bandsOf returns the bands of a raster.
func bandsOf(r api.Raster) api.Bands {
	lows, highs := make([][]int, r.Height), make([][]int, r.Height)
	for y, row := range rowsOf(r.Pixels, r.Width, r.Height) {
		lows[y], highs[y] = split(row, mean, difference)
	}
	low, down := split(lows, each(mean), each(difference))
	right, corner := split(highs, each(mean), each(difference))
	return api.Bands{
		Width: r.Width, Height: r.Height, Max: r.Max,
		Low: slices.Concat(low...), Right: slices.Concat(right...), Down: slices.Concat(down...), Corner: slices.Concat(corner...),
	}
}

// lowOf returns the raster with the pixels of Low, which it shares.
func lowOf(b api.Bands) api.Raster {
	width, _ := halves(b.Width)
	height, _ := halves(b.Height)
	return api.Raster{Width: width, Height: height, Max: b.Max, Pixels: b.Low}
}

// joined returns the raster with some bands, which are valid.
func joined(b api.Bands) (api.Raster, api.Code) {
	left, right := halves(b.Width)
	top, bottom := halves(b.Height)
	lows := join(rowsOf(b.Low, left, top), rowsOf(b.Down, left, bottom), each(first), each(second))
	highs := join(rowsOf(b.Right, right, top), rowsOf(b.Corner, right, bottom), each(first), each(second))
	r, _ := raster.New(b.Width, b.Height, b.Max)
	for y, row := range rowsOf(r.Pixels, r.Width, r.Height) {
		copy(row, join(lows[y], highs[y], first, second))
	}
	if raster.Check(r) != api.OK {
		return api.Raster{}, api.ErrOutside
	}
	return r, api.OK
}

// rowsOf returns the rows of a list of width x height elements, in its memory.
func rowsOf(l []int, width, height int) [][]int {
	rows := make([][]int, height)
	for y := range rows {
		rows[y] = l[y*width : (y+1)*width]
	}
	return rows
}
