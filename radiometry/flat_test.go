package radiometry_test

import (
	"math/big"
	"math/rand"
	"slices"
	"testing"

	"fiducial/api"
	"fiducial/radiometry"
)

// flatOf is the corrected raster, by its definition.
func flatOf(a, dark, flat api.Raster) api.Raster {
	mean := new(big.Rat)
	for i := range a.Pixels {
		mean.Add(mean, big.NewRat(int64(flat.Pixels[i]-dark.Pixels[i]), int64(len(a.Pixels))))
	}
	b := a
	b.Pixels = nil
	for i, p := range a.Pixels {
		z := big.NewRat(int64(p-dark.Pixels[i]), int64(flat.Pixels[i]-dark.Pixels[i]))
		b.Pixels = append(b.Pixels, greyOf(z.Mul(z, mean), a.Max))
	}
	return b
}

// fields are a dark and a flat field of a size.
func fields(r *rand.Rand, width, height int) (dark, flat api.Raster) {
	low, high := most(r), most(r)
	for high < 2 {
		high = most(r)
	}
	low = min(low, high-1)
	dark = filled(width, height, low, func() int { return pick(r, 0, low, r.Intn(low+1)) })
	flat = filled(width, height, high, func() int { return high })
	for i, d := range dark.Pixels {
		flat.Pixels[i] = pick(r, d+1, high, d+1+r.Intn(high-d))
	}
	return dark, flat
}

// P18.3: each pixel is as defined; the result has the greatest grey value of the picture.
func TestFlat(t *testing.T) {
	some(1200, func(r *rand.Rand) {
		width, height, max := size(r), size(r), most(r)
		a := filled(width, height, max, func() int { return pick(r, 0, max, r.Intn(max+1)) })
		dark, flat := fields(r, width, height)
		var before [][]int
		for _, b := range []api.Raster{a, dark, flat} {
			before = append(before, slices.Clone(b.Pixels))
		}
		want := flatOf(a, dark, flat)
		got, code := radiometry.Flat(a, dark, flat)
		if code != api.OK || !same(got, want) {
			t.Fatalf("Flat(%v, %v, %v) = %v, %d, want %v", a, dark, flat, got, code, want)
		}
		for i, b := range []api.Raster{a, dark, flat} {
			if !slices.Equal(b.Pixels, before[i]) {
				t.Fatalf("Flat has changed argument %d", i)
			}
			b.Pixels[0] += 7
		}
		if !same(got, want) {
			t.Fatal("Flat shares memory with its arguments")
		}
	})
	// A dark pixel below the dark field is clamped to 0, a bright one to Max; halves are rounded upwards.
	a, dark, flat := of(9, []int{0, 9, 3, 4}), of(2, []int{2, 0, 0, 1}), of(20, []int{4, 1, 2, 3})
	if got, code := radiometry.Flat(a, dark, flat); code != api.OK || !same(got, of(9, []int{0, 9, 3, 3})) {
		t.Errorf("Flat = %v, %d", got, code)
	}
	great := of(65535, slices.Repeat([]int{65535}, 64))
	for great.Height < 64 {
		great.Pixels, great.Height = append(great.Pixels, great.Pixels[:64]...), great.Height+1
	}
	none := great
	none.Pixels = make([]int, len(great.Pixels))
	if got, code := radiometry.Flat(great, none, great); code != api.OK || !same(got, great) {
		t.Errorf("Flat of the greatest raster: %d", code)
	}
}

// P18.3: a constant picture that was taken through a flat field becomes constant.
func TestFlatConstant(t *testing.T) {
	some(500, func(r *rand.Rand) {
		width, height := size(r), size(r)
		dark, flat := fields(r, width, height)
		light := 0
		for i, f := range flat.Pixels {
			light = max(light, f-dark.Pixels[i])
		}
		times := r.Intn(65535/light + 1)
		a := filled(width, height, 65535, func() int { return 0 })
		for i, f := range flat.Pixels {
			a.Pixels[i] = min(65535, dark.Pixels[i]+times*(f-dark.Pixels[i]))
			if a.Pixels[i] == 65535 {
				return
			}
		}
		got, code := radiometry.Flat(a, dark, flat)
		if code != api.OK || slices.Min(got.Pixels) != slices.Max(got.Pixels) {
			t.Fatalf("Flat(%v, %v, %v) = %v, %d", a, dark, flat, got, code)
		}
	})
}

// P18.3: rasters first, then sizes, then differences that are not above 0, in any place.
func TestFlatInvalid(t *testing.T) {
	a, dark, flat := of(9, []int{1, 2}, []int{3, 4}), of(9, []int{0, 1}, []int{1, 0}), of(99, []int{9, 9}, []int{9, 9})
	for _, bad := range invalidRasters() {
		for _, l := range [][3]api.Raster{{bad, dark, flat}, {a, bad, flat}, {a, dark, bad}, {of(9, []int{1}), bad, dark}, {bad, of(9, []int{1}), dark}, {a, of(9, []int{9}), bad}} {
			if got, code := radiometry.Flat(l[0], l[1], l[2]); code != api.ErrArgument || !isBlank(got) {
				t.Errorf("Flat(%v) = %v, %d", l, got, code)
			}
		}
	}
	for _, other := range []api.Raster{of(9, []int{9, 9, 9, 9}), of(9, []int{9}, []int{9}), of(9, []int{9, 9}), of(9, []int{9, 9}, []int{9, 9}, []int{9, 9}), of(9, []int{9, 9, 9}, []int{9, 9, 9}), of(9, []int{9}, []int{9}, []int{9}, []int{9})} {
		for _, l := range [][3]api.Raster{{other, dark, flat}, {a, other, flat}, {a, dark, other}, {other, other, flat}, {a, other, other}, {other, flat, flat}} {
			if got, code := radiometry.Flat(l[0], l[1], l[2]); code != api.ErrMismatch || !isBlank(got) {
				t.Errorf("Flat(%v) = %v, %d", l, got, code)
			}
		}
	}
	for i := range 4 {
		for _, d := range []int{1, 2, 9} {
			low := dark
			low.Pixels = slices.Clone(dark.Pixels)
			low.Pixels[i] = d
			high := flat
			high.Pixels = slices.Clone(flat.Pixels)
			high.Pixels[i] = 1
			if got, code := radiometry.Flat(a, low, high); code != api.ErrDegenerate || !isBlank(got) {
				t.Errorf("Flat(%v, %v) = %v, %d", low, high, got, code)
			}
			high.Pixels[i] = d + 1
			if got, code := radiometry.Flat(a, low, high); code != api.OK || !same(got, flatOf(a, low, high)) {
				t.Errorf("Flat(%v, %v) = %v, %d", low, high, got, code)
			}
		}
	}
}
