package pyramid_test

import (
	"math/big"
	"math/rand"
	"slices"
	"testing"

	"fiducial/api"
	"fiducial/fraction"
	"fiducial/pyramid"
)

// smoothOf is the smoothed raster, by its definition: the raster is laid into a larger one whose border repeats its own.
func smoothOf(a api.Raster) api.Raster {
	wide := make([][]int, a.Height+2)
	for y := range wide {
		row := a.Pixels[max(0, min(y-1, a.Height-1))*a.Width:][:a.Width]
		wide[y] = slices.Concat(row[:1], row, row[a.Width-1:])
	}
	weights := [][]int{{1, 2, 1}, {2, 4, 2}, {1, 2, 1}}
	b := a
	b.Pixels = drawn(a.Width, a.Height, func(x, y int) int {
		sum := 8
		for j := range 3 {
			for i := range 3 {
				sum += weights[j][i] * wide[y+j][x+i]
			}
		}
		return sum / 16
	})
	return b
}

// reduced are the pixels with even coordinates.
func reduced(a api.Raster) api.Raster {
	b := api.Raster{Width: (a.Width + 1) / 2, Height: (a.Height + 1) / 2, Max: a.Max}
	b.Pixels = drawn(b.Width, b.Height, func(x, y int) int { return pixel(a, 2*x, 2*y) })
	return b
}

// wantSmooth fails the test if Smooth or Reduce does not do what its definition says, changes the raster or shares memory with it.
func wantSmooth(t *testing.T, a api.Raster) {
	t.Helper()
	before := slices.Clone(a.Pixels)
	smooth := smoothOf(a)
	for i, want := range []api.Raster{smooth, reduced(smooth)} {
		f := []func(api.Raster) (api.Raster, api.Code){pyramid.Smooth, pyramid.Reduce}[i]
		got, code := f(a)
		if code != api.OK || !same(got, want) || !slices.Equal(a.Pixels, before) {
			t.Fatalf("function %d of %v = %v, %d, want %v", i, a, got, code, want)
		}
		overwrite(a.Pixels)
		if !same(got, want) {
			t.Fatalf("function %d of %v shares memory with it", i, before)
		}
		copy(a.Pixels, before)
	}
}

// P16.4: Smooth and Reduce of all small rasters and of some others.
func TestSmooth(t *testing.T) {
	for _, size := range [][3]int{{1, 1, 9}, {2, 1, 20}, {1, 2, 20}, {3, 1, 6}, {1, 3, 6}, {2, 2, 4}, {3, 2, 2}, {2, 3, 2}, {3, 3, 1}} {
		all(size[0], size[1], size[2], func(a api.Raster) { wantSmooth(t, a) })
	}
	some(1000, func(r *rand.Rand) { wantSmooth(t, random(r)) })
	for _, c := range [][2]api.Raster{
		{of(7, []int{5}), of(7, []int{5})},
		{of(16, []int{0, 0, 16}), of(16, []int{0, 4, 12})},
		{of(16, []int{0}, []int{0}, []int{16}), of(16, []int{0}, []int{4}, []int{12})},
		{of(65535, []int{65535, 65535}), of(65535, []int{65535, 65535})},
		// A half is rounded upwards: (0 + 2 * 4 + 0) / 16.
		{of(4, []int{0, 0, 0}, []int{0, 0, 4}, []int{0, 0, 0}), of(4, []int{0, 0, 1}, []int{0, 1, 2}, []int{0, 0, 1})},
	} {
		if got, code := pyramid.Smooth(c[0]); code != api.OK || !same(got, c[1]) {
			t.Errorf("Smooth(%v) = %v, %d", c[0], got, code)
		}
	}
	if got, code := pyramid.Reduce(of(16, []int{0, 0, 16})); code != api.OK || !same(got, of(16, []int{0, 12})) {
		t.Errorf("Reduce of the example: %v, %d", got, code)
	}
}

// P16.4: the mean of all pixels is exact.
func TestMean(t *testing.T) {
	check := func(a api.Raster) {
		sum := new(big.Rat)
		for _, g := range a.Pixels {
			sum.Add(sum, big.NewRat(int64(g), int64(len(a.Pixels))))
		}
		before := slices.Clone(a.Pixels)
		x, code := pyramid.Mean(a)
		if code != api.OK || !fraction.Valid(x) || fraction.Text(x) != sum.RatString() || !slices.Equal(a.Pixels, before) {
			t.Fatalf("Mean(%v) = %v, %d, want %s", a, x, code, sum)
		}
	}
	some(800, func(r *rand.Rand) { check(random(r)) })
	all(2, 2, 4, check)
	check(of(65535, slices.Repeat([]int{65535}, 64)))
	for _, c := range []struct {
		a    api.Raster
		want string
	}{{of(9, []int{5, 2, 9}, []int{4, 4, 0}), "4"}, {of(9, []int{1, 2}), "3/2"}, {of(9, []int{0, 0}), "0"}, {of(9, []int{9}), "9"}} {
		if x, code := pyramid.Mean(c.a); code != api.OK || fraction.Text(x) != c.want {
			t.Errorf("Mean(%v) = %v, %d", c.a, x, code)
		}
	}
}

// P16.5: a pixel of Smooth lies between its nine pixels, and grows with them.
func TestSmoothBetween(t *testing.T) {
	some(500, func(r *rand.Rand) {
		a, b := ordered(r)
		low, code := pyramid.Smooth(a)
		high, e := pyramid.Smooth(b)
		if code != api.OK || e != api.OK {
			t.Fatalf("Smooth: %d, %d", code, e)
		}
		for i, g := range low.Pixels {
			x, y := i%a.Width, i/a.Width
			if least, greatest := extremes(a, x-1, y-1, x+1, y+1); g < least || g > greatest {
				t.Fatalf("Smooth of %v: %d is not between %d and %d", a, g, least, greatest)
			}
			if g > high.Pixels[i] {
				t.Fatalf("Smooth of %v is not below that of %v", a, b)
			}
		}
	})
}

// P16.6: rows and columns are treated alike, and an added number is added to the result.
func TestSmoothSymmetry(t *testing.T) {
	exchanged := func(a api.Raster) api.Raster {
		return api.Raster{Width: a.Height, Height: a.Width, Max: a.Max, Pixels: drawn(a.Height, a.Width, func(x, y int) int { return pixel(a, y, x) })}
	}
	some(500, func(r *rand.Rand) {
		a := random(r)
		n := 65535 - a.Max
		for i, f := range []func(api.Raster) (api.Raster, api.Code){pyramid.Smooth, pyramid.Reduce} {
			b, _ := f(a)
			c, code := f(exchanged(a))
			if code != api.OK || !same(c, exchanged(b)) {
				t.Fatalf("function %d of %v exchanged: %v, %d", i, a, c, code)
			}
			more := raised(a, n)
			more.Max += n
			c, code = f(more)
			b = raised(b, n)
			b.Max += n
			if code != api.OK || !same(c, b) {
				t.Fatalf("function %d of %v and %d more: %v, %d", i, a, n, c, code)
			}
		}
	})
}
