package pyramid

import (
	"fiducial/api"
	"fiducial/raster"
)

// Smooth returns the raster smoothed by the binomial filter.
func Smooth(r api.Raster) (api.Raster, api.Code) {
	if code := raster.Check(r); code != api.OK {
		return api.Raster{}, code
	}
	return smoothed(r, 1), api.OK
}

// Reduce returns every second pixel of the smoothed raster.
func Reduce(r api.Raster) (api.Raster, api.Code) {
	if code := raster.Check(r); code != api.OK {
		return api.Raster{}, code
	}
	return smoothed(r, 2), api.OK
}

// smoothed returns the pixels of the smoothed raster whose coordinates are multiples of step.
func smoothed(r api.Raster, step int) api.Raster {
	// Beyond the border stand the nearest pixels at the border.
	at := func(x, y int) int {
		x, y = min(max(x, 0), r.Width-1), min(max(y, 0), r.Height-1)
		return r.Pixels[y*r.Width+x]
	}
	result, _ := raster.New((r.Width+step-1)/step, (r.Height+step-1)/step, r.Max)
	for y, row := range rowsOf(result.Pixels, result.Width, result.Height) {
		for x := range row {
			row[x] = (weighted(at, step*x, step*y) + 8) / 16
		}
	}
	return result
}

// weighted returns the sum of the nine pixels around (x, y), with their weights.
func weighted(at func(x, y int) int, x, y int) int {
	weights := [3]int{1, 2, 1}
	sum := 0
	for j, v := range weights {
		for i, u := range weights {
			sum += u * v * at(x+i-1, y+j-1)
		}
	}
	return sum
}
