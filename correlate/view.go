package correlate

import (
	"fiducial/api"
	"fiducial/raster"
)

// view is a raster with the tables of the sums of its pixels and of their squares.
type view struct {
	api.Raster
	sums, squares [][]int
}

// viewOf returns r, which is a raster, with its tables.
func viewOf(r api.Raster) view {
	sums, _ := raster.Integral(r)
	squares, _ := Squares(r)
	return view{r, sums, squares}
}

// spread returns the sum of a rectangle of pixels, and their number times the sum of their squares less the square of their sum.
func (v view) spread(x, y, width, height int) (sum, spread int) {
	sum, _ = raster.Sum(v.sums, x, y, width, height)
	squares, _ := raster.Sum(v.squares, x, y, width, height)
	return sum, width*height*squares - sum*sum
}
