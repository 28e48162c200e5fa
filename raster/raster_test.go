package raster_test

import (
	"math/rand"
	"testing"

	"fiducial/api"
	"fiducial/raster"
)

// P13.1: what is a raster and what is none.
func TestCheck(t *testing.T) {
	for _, a := range invalid() {
		if code := raster.Check(a); code != api.ErrArgument {
			t.Errorf("Check(%v): %d", a, code)
		}
	}
	for _, a := range []api.Raster{example(), filled(1, 1, 1, 0), filled(1, 1, 1, 1), filled(64, 64, 65535, 65535), filled(64, 1, 1, 1), filled(1, 64, 2, 1)} {
		if code := raster.Check(a); code != api.OK {
			t.Errorf("Check(%v): %d", a, code)
		}
	}
	some(2000, func(r *rand.Rand) {
		a := random(r, greatest(r))
		if code := raster.Check(a); code != api.OK {
			t.Fatalf("Check(%v): %d", a, code)
		}
		a.Pixels[r.Intn(len(a.Pixels))] += a.Max + 1
		if code := raster.Check(a); code != api.ErrArgument {
			t.Fatalf("Check(%v): %d", a, code)
		}
	})
}

// P13.1: rasters of zeros in all sizes.
func TestNew(t *testing.T) {
	for width := range 67 {
		for height := range 67 {
			most := 1 + width*height
			a, code := raster.New(width, height, most)
			if width < 1 || width > 64 || height < 1 || height > 64 {
				if code != api.ErrRange || !isBlank(a) {
					t.Fatalf("New(%d, %d, %d) = %v, %d", width, height, most, a, code)
				}
			} else if code != api.OK || !same(a, filled(width, height, most, 0)) {
				t.Fatalf("New(%d, %d, %d) = %v, %d", width, height, most, a, code)
			}
		}
	}
	for _, n := range append(far(), 0) {
		for _, l := range [][3]int{{n, 3, 3}, {3, n, 3}, {n, n, 3}, {n, n, n}} {
			if a, code := raster.New(l[0], l[1], l[2]); code != api.ErrRange || !isBlank(a) {
				t.Errorf("New(%v) = %v, %d", l, a, code)
			}
		}
		if a, code := raster.New(3, 3, n); (n < 1 || n > 65535) && (code != api.ErrRange || !isBlank(a)) {
			t.Errorf("New(3, 3, %d) = %v, %d", n, a, code)
		}
	}
	for _, most := range []int{1, 65535} {
		if a, code := raster.New(2, 3, most); code != api.OK || !same(a, filled(2, 3, most, 0)) {
			t.Errorf("New(2, 3, %d) = %v, %d", most, a, code)
		}
	}
}

// P13.1: any two values are compared, rasters or not.
func TestEqual(t *testing.T) {
	values := append(invalid(), example(), of(9, []int{1, 2, 3, 4}), of(9, []int{1}, []int{2}, []int{3}, []int{4}), of(8, []int{1, 2}, []int{3, 4}), of(9, []int{1, 2}, []int{3, 5}), filled(64, 64, 65535, 65535))
	for i, a := range values {
		for k, b := range values {
			if got := raster.Equal(a, copied(b)); got != same(a, b) || i == k && !got {
				t.Errorf("Equal(%v, %v) = %t", a, b, got)
			}
		}
	}
	if !raster.Equal(api.Raster{}, api.Raster{Pixels: []int{}}) || raster.Equal(api.Raster{}, api.Raster{Pixels: []int{0}}) {
		t.Error("Equal without pixels")
	}
	some(500, func(r *rand.Rand) {
		a := random(r, 4)
		b := copied(a)
		b.Pixels[r.Intn(len(b.Pixels))]--
		if !raster.Equal(a, copied(a)) || raster.Equal(a, b) {
			t.Fatalf("Equal of %v", a)
		}
	})
}

// P13.2: each pixel is found, and is the only one that is changed.
func TestAtSet(t *testing.T) {
	some(60, func(r *rand.Rand) {
		a := random(r, greatest(r))
		for y := -1; y <= a.Height; y++ {
			for x := -1; x <= a.Width; x++ {
				value := r.Intn(a.Max + 1)
				if pixel(a, x, y) < 0 {
					if g, code := raster.At(a, x, y); code != api.ErrRange || g != 0 {
						t.Fatalf("At(%v, %d, %d) = %d, %d", a, x, y, g, code)
					}
					if b, code := raster.Set(a, x, y, value); code != api.ErrRange || !isBlank(b) {
						t.Fatalf("Set(%v, %d, %d) = %v, %d", a, x, y, b, code)
					}
					continue
				}
				if g, code := raster.At(a, x, y); code != api.OK || g != pixel(a, x, y) {
					t.Fatalf("At(%v, %d, %d) = %d, %d", a, x, y, g, code)
				}
				result := copied(a)
				result.Pixels[y*a.Width+x] = value
				set := func(l ...api.Raster) (api.Raster, api.Code) { return raster.Set(l[0], x, y, value) }
				want(t, "Set", set, result, a)
			}
		}
	})
}

// P13.2: coordinates and values that are out of range.
func TestAtSetInvalid(t *testing.T) {
	a := example()
	for _, n := range append(far(), 2) {
		for _, l := range [][2]int{{n, 0}, {0, n}, {n, n}, {1, n}} {
			if g, code := raster.At(a, l[0], l[1]); code != api.ErrRange || g != 0 {
				t.Errorf("At(%v) = %d, %d", l, g, code)
			}
			if b, code := raster.Set(a, l[0], l[1], 1); code != api.ErrRange || !isBlank(b) {
				t.Errorf("Set(%v) = %v, %d", l, b, code)
			}
		}
	}
	for _, n := range append(far(), 10) {
		if b, code := raster.Set(a, 1, 1, n); code != api.ErrRange || !isBlank(b) {
			t.Errorf("Set to %d = %v, %d", n, b, code)
		}
	}
	for _, n := range []int{0, 9} {
		if b, code := raster.Set(a, 1, 0, n); code != api.OK || !same(b, of(9, []int{1, n}, []int{3, 4})) {
			t.Errorf("Set to %d = %v, %d", n, b, code)
		}
	}
}

// P13.2 to P13.8: ErrArgument comes before all other errors, with other arguments that are right or not.
func TestArguments(t *testing.T) {
	good := example()
	for _, a := range invalid() {
		for _, n := range []int{0, 1, -1, 1 << 62} {
			calls := map[string]func() (api.Raster, api.Code){
				"Set":          func() (api.Raster, api.Code) { return raster.Set(a, n, n, n) },
				"Crop":         func() (api.Raster, api.Code) { return raster.Crop(a, n, n, n, n) },
				"Paste":        func() (api.Raster, api.Code) { return raster.Paste(a, a, n, n) },
				"Paste second": func() (api.Raster, api.Code) { return raster.Paste(good, a, n, n) },
				"Paste first":  func() (api.Raster, api.Code) { return raster.Paste(a, good, n, n) },
				"Turn":         func() (api.Raster, api.Code) { return raster.Turn(a) },
				"Mirror":       func() (api.Raster, api.Code) { return raster.Mirror(a) },
				"Map":          func() (api.Raster, api.Code) { return raster.Map(a, []int{n, n}) },
				"Rescale":      func() (api.Raster, api.Code) { return raster.Rescale(a, n) },
			}
			for name, call := range calls {
				if b, code := call(); code != api.ErrArgument || !isBlank(b) {
					t.Errorf("%s of %v with %d: %v, %d", name, a, n, b, code)
				}
			}
			if g, code := raster.At(a, n, n); code != api.ErrArgument || g != 0 {
				t.Errorf("At of %v: %d, %d", a, g, code)
			}
		}
		if l, code := raster.Histogram(a); code != api.ErrArgument || len(l) > 0 {
			t.Errorf("Histogram of %v: %v, %d", a, l, code)
		}
		if l, code := raster.Integral(a); code != api.ErrArgument || len(l) > 0 {
			t.Errorf("Integral of %v: %v, %d", a, l, code)
		}
	}
}
