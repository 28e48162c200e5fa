package frame

import (
	"slices"

	"fiducial/api"
	"fiducial/raster"
)

// Residuals returns the residuals of a raster, row by row.
func Residuals(r api.Raster) ([]int, api.Code) {
	if code := raster.Check(r); code != api.OK {
		return nil, code
	}
	return residualsOf(r), api.OK
}

// residualsOf returns the residuals of a raster.
func residualsOf(r api.Raster) []int {
	residuals := make([]int, len(r.Pixels))
	m := r.Max + 1
	for i, g := range r.Pixels {
		residuals[i] = residual((g-prediction(r, i)+m)%m, m)
	}
	return residuals
}

// Restore returns the raster with the given residuals.
func Restore(width, height, greatest int, residuals []int) (api.Raster, api.Code) {
	r, code := raster.New(width, height, greatest)
	if code != api.OK {
		return api.Raster{}, code
	}
	if len(residuals) != width*height {
		return api.Raster{}, api.ErrMismatch
	}
	if slices.ContainsFunc(residuals, func(v int) bool { return !within(v, 0, greatest) }) {
		return api.Raster{}, api.ErrRange
	}
	m := greatest + 1
	for i, v := range residuals {
		r.Pixels[i] = (prediction(r, i) + difference(v) + m) % m
	}
	return r, api.OK
}

// prediction returns what the pixel with the index i should be according to those before it.
func prediction(r api.Raster, i int) int {
	switch {
	case i == 0:
		return 0
	case i < r.Width:
		return r.Pixels[i-1]
	case i%r.Width == 0:
		return r.Pixels[i-r.Width]
	}
	a, b, c := r.Pixels[i-1], r.Pixels[i-r.Width], r.Pixels[i-r.Width-1]
	switch {
	case c >= max(a, b):
		return min(a, b)
	case c <= min(a, b):
		return max(a, b)
	}
	return a + b - c
}

// residual returns the residual of a difference from 0 to m - 1.
func residual(r, m int) int {
	s := r
	if 2*r > m {
		s -= m
	}
	if s > 0 {
		return 2*s - 1
	}
	return -2 * s
}

// difference returns the signed difference with a residual.
func difference(v int) int {
	if v%2 == 1 {
		return (v + 1) / 2
	}
	return -v / 2
}
