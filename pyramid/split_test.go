package pyramid_test

import (
	"math/rand"
	"slices"
	"testing"

	"fiducial/api"
	"fiducial/pyramid"
	"fiducial/raster"
)

// P16.1: the bands of the example, and of all small rasters.
func TestSplitSmall(t *testing.T) {
	b, code := pyramid.Split(of(9, []int{5, 2, 9}, []int{4, 4, 0}))
	want := api.Bands{Width: 3, Height: 2, Max: 9, Low: []int{3, 4}, Right: []int{1}, Down: []int{-1, 9}, Corner: []int{3}}
	if code != api.OK || !sameBands(b, want) {
		t.Errorf("Split of the example: %v, %d", b, code)
	}
	for _, size := range [][3]int{{1, 1, 9}, {2, 1, 20}, {1, 2, 20}, {3, 1, 6}, {1, 3, 6}, {2, 2, 4}, {3, 2, 2}, {2, 3, 2}, {3, 3, 1}, {4, 3, 1}, {5, 2, 1}} {
		all(size[0], size[1], size[2], func(a api.Raster) {
			wantSplit(t, a)
		})
	}
}

// wantSplit fails the test if Split does not return the bands, changes the raster, or shares memory with it or between the bands.
func wantSplit(t *testing.T, a api.Raster) {
	t.Helper()
	before := slices.Clone(a.Pixels)
	want := splitOf(a)
	got, code := pyramid.Split(a)
	if code != api.OK || !sameBands(got, want) || !slices.Equal(a.Pixels, before) {
		t.Fatalf("Split(%v) = %v, %d, want %v", a, got, code, want)
	}
	overwrite(a.Pixels)
	for k, l := range lists(got) {
		if !slices.Equal(l, lists(want)[k]) {
			t.Fatalf("band %d of %v shares memory", k, before)
		}
		overwrite(l)
	}
	copy(a.Pixels, before)
}

// P16.1: the bands of rasters of all sizes.
func TestSplit(t *testing.T) {
	some(1500, func(r *rand.Rand) { wantSplit(t, random(r)) })
	r := rand.New(rand.NewSource(1))
	for width := 1; width <= 64; width++ {
		for _, height := range []int{1, 2, 3, 64, width} {
			wantSplit(t, api.Raster{Width: width, Height: height, Max: 65535, Pixels: drawn(width, height, func(x, y int) int { return r.Intn(65536) })})
		}
	}
}

// P16.1: the levels are the bands of the Low of the level before.
func TestBuild(t *testing.T) {
	some(600, func(r *rand.Rand) {
		a := random(r)
		before := slices.Clone(a.Pixels)
		n := 1 + r.Intn(6)
		levels, code := pyramid.Build(a, n)
		if code != api.OK || len(levels) != n || !slices.Equal(a.Pixels, before) {
			t.Fatalf("Build(%v, %d): %d levels, %d", a, n, len(levels), code)
		}
		var want []api.Bands
		next := a
		for range n {
			b := splitOf(next)
			want = append(want, b)
			width, _ := sizes(next.Width)
			height, _ := sizes(next.Height)
			next = api.Raster{Width: width, Height: height, Max: a.Max, Pixels: b.Low}
		}
		if !slices.EqualFunc(levels, want, sameBands) {
			t.Fatalf("Build(%v, %d) = %v, want %v", a, n, levels, want)
		}
		overwrite(a.Pixels)
		for i, b := range levels {
			if !sameBands(b, want[i]) {
				t.Fatalf("level %d shares memory", i)
			}
			overwrite(lists(b)...)
		}
	})
	// A single pixel has as many levels as any other raster.
	levels, code := pyramid.Build(of(3, []int{2}), 6)
	if code != api.OK || len(levels) != 6 || !sameBands(levels[5], api.Bands{Width: 1, Height: 1, Max: 3, Low: []int{2}}) {
		t.Errorf("Build of a pixel: %v, %d", levels, code)
	}
}

// P16.1, P16.4: the raster comes before the number of levels.
func TestRasterInvalid(t *testing.T) {
	for _, a := range invalidRasters() {
		want := raster.Check(a)
		if want != api.ErrArgument {
			t.Fatalf("%v is a raster", a)
		}
		if b, code := pyramid.Split(a); code != want || !sameBands(b, api.Bands{}) {
			t.Errorf("Split(%v) = %v, %d", a, b, code)
		}
		for _, n := range append(far(), 0, 1, 6, 7) {
			if l, code := pyramid.Build(a, n); code != want || len(l) != 0 {
				t.Errorf("Build(%v, %d) = %v, %d", a, n, l, code)
			}
		}
		for i, f := range []func(api.Raster) (api.Raster, api.Code){pyramid.Smooth, pyramid.Reduce} {
			if b, code := f(a); code != want || !same(b, api.Raster{}) {
				t.Errorf("function %d of %v: %v, %d", i, a, b, code)
			}
		}
		if x, code := pyramid.Mean(a); code != want || x.Num.Groups != nil || x.Den.Groups != nil {
			t.Errorf("Mean(%v) = %v, %d", a, x, code)
		}
	}
	for _, n := range append(far(), 0, -1, 7) {
		for _, a := range []api.Raster{of(3, []int{2}), of(1, []int{0, 1}, []int{1, 1})} {
			if l, code := pyramid.Build(a, n); code != api.ErrRange || len(l) != 0 {
				t.Errorf("Build(%v, %d) = %v, %d", a, n, l, code)
			}
		}
	}
}

// P16.5: a pixel of Low lies between the pixels from which it is made, and grows with them.
func TestLowBetween(t *testing.T) {
	some(500, func(r *rand.Rand) {
		a, b := ordered(r)
		low, code := pyramid.Split(a)
		high, e := pyramid.Split(b)
		if code != api.OK || e != api.OK {
			t.Fatalf("Split: %d, %d", code, e)
		}
		width, _ := sizes(a.Width)
		for i, g := range low.Low {
			x, y := 2*(i%width), 2*(i/width)
			if least, greatest := extremes(a, x, y, x+1, y+1); g < least || g > greatest {
				t.Fatalf("Low of %v: %d is not between %d and %d", a, g, least, greatest)
			}
			if g > high.Low[i] {
				t.Fatalf("Low of %v is not below that of %v", a, b)
			}
		}
	})
}

// ordered are two rasters; no pixel of the first one is above that of the second one.
func ordered(r *rand.Rand) (api.Raster, api.Raster) {
	a := random(r)
	b := a
	b.Pixels = drawn(a.Width, a.Height, func(x, y int) int {
		g := pixel(a, x, y)
		return pick(r, g, g, min(g+1, a.Max), g+r.Intn(a.Max-g+1))
	})
	return a, b
}

// extremes are the least and the greatest pixel from (left, top) to (right, bottom), as far as there are pixels.
func extremes(a api.Raster, left, top, right, bottom int) (least, greatest int) {
	least = a.Max
	for y := max(top, 0); y <= min(bottom, a.Height-1); y++ {
		for x := max(left, 0); x <= min(right, a.Width-1); x++ {
			least, greatest = min(least, pixel(a, x, y)), max(greatest, pixel(a, x, y))
		}
	}
	return least, greatest
}

// P16.6: a number that is added to all pixels is added to Low, and to no other band.
func TestSplitShift(t *testing.T) {
	some(500, func(r *rand.Rand) {
		a := random(r)
		a.Max = min(a.Max, 60000)
		for i, g := range a.Pixels {
			a.Pixels[i] = min(g, a.Max)
		}
		n := 1 + r.Intn(65535-a.Max)
		a.Max += n
		b, code := pyramid.Split(a)
		c, e := pyramid.Split(raised(a, n))
		for i := range b.Low {
			b.Low[i] += n
		}
		if code != api.OK || e != api.OK || !sameBands(b, c) {
			t.Fatalf("%d added to %v: %v, %d, %v, %d", n, a, b, code, c, e)
		}
	})
}

// raised is a with a number added to all pixels.
func raised(a api.Raster, n int) api.Raster {
	a.Pixels = drawn(a.Width, a.Height, func(x, y int) int { return pixel(a, x, y) + n })
	return a
}
