package raster_test

import (
	"math"
	"math/rand"
	"slices"
	"testing"

	"fiducial/api"
	"fiducial/raster"
)

// of is a raster with some rows.
func of(most int, rows ...[]int) api.Raster {
	return api.Raster{Width: len(rows[0]), Height: len(rows), Max: most, Pixels: slices.Concat(rows...)}
}

// example is the raster of the chapter.
func example() api.Raster {
	return of(9, []int{1, 2}, []int{3, 4})
}

// filled is a raster of one grey value.
func filled(width, height, most, grey int) api.Raster {
	return api.Raster{Width: width, Height: height, Max: most, Pixels: slices.Repeat([]int{grey}, width*height)}
}

// some calls check many times.
func some(rounds int, check func(r *rand.Rand)) {
	r := rand.New(rand.NewSource(13))
	for range rounds {
		check(r)
	}
}

// sizeOf returns a size; some are the least or the greatest one.
func sizeOf(r *rand.Rand) int {
	switch r.Intn(8) {
	case 0:
		return 64
	case 1:
		return 1
	}
	return 1 + r.Intn(12)
}

// random returns a raster with a greatest grey value.
func random(r *rand.Rand, most int) api.Raster {
	a := filled(sizeOf(r), sizeOf(r), most, 0)
	for i := range a.Pixels {
		a.Pixels[i] = r.Intn(most + 1)
		if r.Intn(10) == 0 {
			a.Pixels[i] = most
		}
	}
	return a
}

// greatest returns a greatest grey value, from 1 to 65535.
func greatest(r *rand.Rand) int {
	return []int{1, 2, 3, 255, 65535, 65534, 1 + r.Intn(65535), 1 + r.Intn(20)}[r.Intn(8)]
}

// pixel is the pixel (x, y) of a raster, -1 if it has none.
func pixel(a api.Raster, x, y int) int {
	if x < 0 || y < 0 || x >= a.Width || y >= a.Height {
		return -1
	}
	return a.Pixels[y*a.Width+x]
}

// drawn is the raster of some size with the pixels that a function says.
func drawn(width, height, most int, at func(x, y int) int) api.Raster {
	a := api.Raster{Width: width, Height: height, Max: most}
	for y := range height {
		for x := range width {
			a.Pixels = append(a.Pixels, at(x, y))
		}
	}
	return a
}

// same reports whether two rasters have the same fields.
func same(a, b api.Raster) bool {
	return a.Width == b.Width && a.Height == b.Height && a.Max == b.Max && slices.Equal(a.Pixels, b.Pixels)
}

// isBlank reports whether a is the zero value.
func isBlank(a api.Raster) bool {
	return same(a, api.Raster{})
}

// copied is a copy of a in new memory.
func copied(a api.Raster) api.Raster {
	a.Pixels = slices.Clone(a.Pixels)
	return a
}

// want fails the test if a call did not return a raster, or changed or kept its arguments.
func want(t *testing.T, what string, call func(arguments ...api.Raster) (api.Raster, api.Code), result api.Raster, arguments ...api.Raster) {
	t.Helper()
	var given []api.Raster
	for _, a := range arguments {
		given = append(given, copied(a))
	}
	got, code := call(given...)
	if code != api.OK || !same(got, result) || raster.Check(got) != api.OK {
		t.Fatalf("%s of %v = %v, %d, want %v", what, arguments, got, code, result)
	}
	for i, a := range arguments {
		if !same(given[i], a) {
			t.Fatalf("%s has changed %v to %v", what, a, given[i])
		}
		for k := range given[i].Pixels {
			given[i].Pixels[k] = -7
		}
	}
	if !same(got, result) {
		t.Fatalf("%s of %v shares memory with it", what, arguments)
	}
}

// far are numbers that are no size, coordinate or grey value.
func far() []int {
	return []int{-1, -2, -64, math.MinInt, math.MinInt + 1, math.MaxInt, math.MaxInt - 1, 1 << 32, -1 << 32, 1 << 62, 65536}
}

// invalid are values that are no rasters.
func invalid() []api.Raster {
	good := of(3, []int{0, 1, 2}, []int{3, 2, 1})
	l := []api.Raster{{}, {Pixels: []int{0}}, {Width: 1, Height: 1, Max: 1}, {Width: 1, Height: 1, Pixels: []int{0}}, {Width: -1, Height: -1, Max: 1, Pixels: []int{0}}, {Width: 65, Height: 1, Max: 1, Pixels: make([]int, 65)}, {Width: 1, Height: 65, Max: 1, Pixels: make([]int, 65)}, {Width: 2, Height: 0, Max: 1}, {Width: 1 << 32, Height: 1 << 32, Max: 1}, {Width: 1 << 32, Height: 1 << 31, Max: 1, Pixels: []int{}}, {Width: 0, Height: 0, Max: 5}, {Width: 3, Height: 3, Max: 65536, Pixels: make([]int, 9)}}
	for _, n := range append(far(), 0, 65536) {
		bad := copied(good)
		bad.Width = n
		other := copied(good)
		other.Height = n
		low := copied(good)
		low.Max = n
		l = append(l, bad, other)
		if n < 1 || n > 65535 {
			l = append(l, low)
		}
	}
	for i := range good.Pixels {
		for _, grey := range append(far(), 4) {
			bad := copied(good)
			bad.Pixels[i] = grey
			l = append(l, bad)
		}
	}
	short, long, small := copied(good), copied(good), copied(good)
	short.Pixels = short.Pixels[:5]
	long.Pixels = append(long.Pixels, 0)
	small.Max = 2
	return append(l, short, long, small)
}
