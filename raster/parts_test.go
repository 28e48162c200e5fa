package raster_test

import (
	"math"
	"math/rand"
	"testing"

	"fiducial/api"
	"fiducial/raster"
)

// P13.3: all parts of a raster, and what is no part.
func TestCrop(t *testing.T) {
	check := func(a api.Raster, x, y, width, height int) {
		crop := func(l ...api.Raster) (api.Raster, api.Code) { return raster.Crop(l[0], x, y, width, height) }
		if x < 0 || y < 0 || width < 1 || height < 1 || x+width > a.Width || y+height > a.Height {
			if b, code := crop(a); code != api.ErrRange || !isBlank(b) {
				t.Fatalf("Crop(%v, %d, %d, %d, %d) = %v, %d", a, x, y, width, height, b, code)
			}
			return
		}
		want(t, "Crop", crop, drawn(width, height, a.Max, func(i, j int) int { return pixel(a, x+i, y+j) }), a)
	}
	some(4, func(r *rand.Rand) {
		a := random(r, greatest(r))
		a = drawn(4, 3, a.Max, func(x, y int) int { return r.Intn(a.Max + 1) })
		for k := range 7 * 6 * 8 * 7 {
			check(a, k%7-1, k/7%6-1, k/42%8-1, k/336-1)
		}
	})
	some(2000, func(r *rand.Rand) {
		a := random(r, greatest(r))
		x, y := r.Intn(a.Width), r.Intn(a.Height)
		check(a, x, y, 1+r.Intn(a.Width-x), 1+r.Intn(a.Height-y))
		check(a, x, y, a.Width-x, a.Height-y)
		check(a, x, y, a.Width-x+1, a.Height-y)
		check(a, x, y, a.Width-x, a.Height-y+1)
		check(a, 0, 0, a.Width, a.Height)
	})
	for _, n := range far() {
		for k := range 4 {
			l := [4]int{1, 1, 1, 1}
			l[k] = n
			if b, code := raster.Crop(example(), l[0], l[1], l[2], l[3]); code != api.ErrRange || !isBlank(b) {
				t.Errorf("Crop(%v) = %v, %d", l, b, code)
			}
		}
	}
	// Sums of these are in range again.
	for _, l := range [][4]int{{math.MinInt, 0, math.MaxInt, 1}, {math.MaxInt, 0, math.MinInt, 1}, {0, math.MaxInt, 1, math.MaxInt}, {2, 0, math.MaxInt, 1}} {
		if b, code := raster.Crop(example(), l[0], l[1], l[2], l[3]); code != api.ErrRange || !isBlank(b) {
			t.Errorf("Crop(%v) = %v, %d", l, b, code)
		}
	}
}

// P13.4: rasters laid over others everywhere, also beyond their borders.
func TestPaste(t *testing.T) {
	check := func(a, b api.Raster, x, y int) {
		result := drawn(a.Width, a.Height, a.Max, func(i, j int) int {
			if g := pixel(b, i-x, j-y); g >= 0 {
				return g
			}
			return pixel(a, i, j)
		})
		paste := func(l ...api.Raster) (api.Raster, api.Code) { return raster.Paste(l[0], l[1], x, y) }
		want(t, "Paste", paste, result, a, b)
	}
	for width := 1; width <= 3; width++ {
		for height := 1; height <= 3; height++ {
			a, b := filled(3, 2, 99, 50), drawn(width, height, 99, func(x, y int) int { return 10*y + x })
			for x := -5; x <= 5; x++ {
				for y := -5; y <= 5; y++ {
					check(a, b, x, y)
					check(b, a, x, y)
				}
			}
		}
	}
	some(2000, func(r *rand.Rand) {
		most := greatest(r)
		a, b := random(r, most), random(r, most)
		check(a, b, r.Intn(129)-64, r.Intn(129)-64)
		check(a, b, r.Intn(9)-4, r.Intn(9)-4)
	})
	a, b := filled(64, 64, 7, 1), filled(64, 64, 7, 6)
	for _, x := range []int{-64, -63, -1, 0, 1, 63, 64} {
		for _, y := range []int{-64, -63, 0, 1, 63, 64} {
			check(a, b, x, y)
		}
	}
	// The third example: the first column is lost.
	if c, code := raster.Paste(filled(3, 2, 9, 0), example(), -1, 0); code != api.OK || !same(c, of(9, []int{2, 0, 0}, []int{4, 0, 0})) {
		t.Errorf("the example: %v, %d", c, code)
	}
	// A raster is laid over itself.
	c := of(9, []int{1, 2, 3})
	if d, code := raster.Paste(c, c, 1, 0); code != api.OK || !same(d, of(9, []int{1, 1, 2})) || !same(c, of(9, []int{1, 2, 3})) {
		t.Errorf("Paste of itself: %v, %d", d, code)
	}
}

// P13.4: other Max comes first, then places that are out of range.
func TestPasteInvalid(t *testing.T) {
	a := example()
	other := copied(a)
	other.Max = 8
	for _, n := range []int{65, -65, 66, 1 << 32, -1 << 32, math.MaxInt, math.MinInt} {
		for _, l := range [][2]int{{n, 0}, {0, n}, {n, n}, {64, n}, {n, -64}} {
			if b, code := raster.Paste(a, a, l[0], l[1]); code != api.ErrRange || !isBlank(b) {
				t.Errorf("Paste at %v = %v, %d", l, b, code)
			}
			if b, code := raster.Paste(a, other, l[0], l[1]); code != api.ErrMismatch || !isBlank(b) {
				t.Errorf("Paste at %v = %v, %d", l, b, code)
			}
		}
	}
	for _, n := range []int{0, 1, 64} {
		if b, code := raster.Paste(other, a, n, n); code != api.ErrMismatch || !isBlank(b) {
			t.Errorf("Paste at %d = %v, %d", n, b, code)
		}
	}
}

// P13.5: turns and mirrors, and what some of them one after another do.
func TestTurnMirror(t *testing.T) {
	turn := func(l ...api.Raster) (api.Raster, api.Code) { return raster.Turn(l[0]) }
	mirror := func(l ...api.Raster) (api.Raster, api.Code) { return raster.Mirror(l[0]) }
	check := func(a api.Raster) {
		turned := drawn(a.Height, a.Width, a.Max, func(x, y int) int { return pixel(a, a.Width-1-y, x) })
		mirrored := drawn(a.Width, a.Height, a.Max, func(x, y int) int { return pixel(a, a.Width-1-x, y) })
		want(t, "Turn", turn, turned, a)
		want(t, "Mirror", mirror, mirrored, a)
		want(t, "Mirror", mirror, a, mirrored)
		b := a
		for range 4 {
			b, _ = raster.Turn(b)
		}
		if !same(a, b) {
			t.Fatalf("four turns of %v: %v", a, b)
		}
		// Two turns are half a turn; a turn between two mirrors is the turn back.
		half, _ := raster.Turn(turned)
		if !same(half, drawn(a.Width, a.Height, a.Max, func(x, y int) int { return pixel(a, a.Width-1-x, a.Height-1-y) })) {
			t.Fatalf("two turns of %v: %v", a, half)
		}
		other, _ := raster.Mirror(turned)
		other, _ = raster.Turn(other)
		if !same(other, mirrored) {
			t.Fatalf("turns and mirrors of %v: %v", a, other)
		}
	}
	some(1500, func(r *rand.Rand) { check(random(r, greatest(r))) })
	check(filled(64, 64, 1, 1))
	for _, c := range []struct{ a, turned, mirrored api.Raster }{
		{example(), of(9, []int{2, 4}, []int{1, 3}), of(9, []int{2, 1}, []int{4, 3})},
		{of(9, []int{1, 2, 3}), of(9, []int{3}, []int{2}, []int{1}), of(9, []int{3, 2, 1})},
		{of(9, []int{1}, []int{2}, []int{3}), of(9, []int{1, 2, 3}), of(9, []int{1}, []int{2}, []int{3})},
		{of(9, []int{5}), of(9, []int{5}), of(9, []int{5})},
	} {
		want(t, "Turn", turn, c.turned, c.a)
		want(t, "Mirror", mirror, c.mirrored, c.a)
	}
}
