package raster

import (
	"slices"

	"fiducial/api"
)

// Histogram returns the number of pixels of each grey value.
func Histogram(r api.Raster) ([]int, api.Code) {
	if code := Check(r); code != api.OK {
		return nil, code
	}
	counts := make([]int, r.Max+1)
	for _, g := range r.Pixels {
		counts[g]++
	}
	return counts, api.OK
}

// Map returns r with each grey value replaced by that of a table.
func Map(r api.Raster, table []int) (api.Raster, api.Code) {
	if code := Check(r); code != api.OK {
		return api.Raster{}, code
	}
	if len(table) != r.Max+1 {
		return api.Raster{}, api.ErrMismatch
	}
	if slices.ContainsFunc(table, func(g int) bool { return !within(g, 0, r.Max) }) {
		return api.Raster{}, api.ErrRange
	}
	return replaced(r, r.Max, func(g int) int { return table[g] }), api.OK
}

// Rescale returns r with another greatest grey value, rounded.
func Rescale(r api.Raster, most int) (api.Raster, api.Code) {
	if code := Check(r); code != api.OK {
		return api.Raster{}, code
	}
	if !within(most, 1, api.MaxGrey) {
		return api.Raster{}, api.ErrRange
	}
	return replaced(r, most, func(g int) int { return (2*g*most + r.Max) / (2 * r.Max) }), api.OK
}

// replaced returns r with the greatest grey value most and each grey value replaced by another one.
func replaced(r api.Raster, most int, other func(g int) int) api.Raster {
	result := blank(r.Width, r.Height, most)
	for i, g := range r.Pixels {
		result.Pixels[i] = other(g)
	}
	return result
}

// Integral returns the sums of all rectangles from the corner (0, 0).
func Integral(r api.Raster) ([][]int, api.Code) {
	if code := Check(r); code != api.OK {
		return nil, code
	}
	table := make([][]int, r.Height+1)
	table[0] = make([]int, r.Width+1)
	for y := range r.Height {
		table[y+1] = make([]int, r.Width+1)
		sum := 0
		for x, g := range row(r, y) {
			sum += g
			table[y+1][x+1] = table[y][x+1] + sum
		}
	}
	return table, api.OK
}

// Sum returns the sum of a rectangle from the table that Integral returns.
func Sum(table [][]int, x, y, width, height int) (int, api.Code) {
	if !isTable(table) {
		return 0, api.ErrArgument
	}
	columns, rows := len(table[0])-1, len(table)-1
	if !within(x, 0, columns) || !within(y, 0, rows) || !within(width, 0, columns-x) || !within(height, 0, rows-y) {
		return 0, api.ErrRange
	}
	above, below := table[y], table[y+height]
	return below[x+width] - below[x] - above[x+width] + above[x], api.OK
}

// isTable reports whether a table has rows of one length above 0.
func isTable(table [][]int) bool {
	isOther := func(l []int) bool { return len(l) != len(table[0]) }
	return len(table) > 0 && len(table[0]) > 0 && !slices.ContainsFunc(table, isOther)
}
