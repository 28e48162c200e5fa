package correlate_test

import (
	"math/big"
	"math/rand"
	"slices"
	"testing"

	"fiducial/api"
	"fiducial/correlate"
)

// offsetOf is where the parabola a t^2 + b t + m through three scores is level, if the middle one is a peak.
func offsetOf(l, m, r *big.Rat) (*big.Rat, bool) {
	if l.Cmp(m) > 0 || r.Cmp(m) > 0 || l.Cmp(m) == 0 && r.Cmp(m) == 0 {
		return nil, false
	}
	half := big.NewRat(1, 2)
	b := new(big.Rat).Sub(r, l)
	b.Mul(b, half)
	a := new(big.Rat).Add(l, r)
	a.Mul(a, half).Sub(a, m)
	t := new(big.Rat).Quo(b, new(big.Rat).Add(a, a))
	return t.Neg(t), true
}

// wantRefined fails the test if Refine does not return the offset of the peak at a position. It returns the code.
func wantRefined(t *testing.T, patch, image api.Raster, x, y int) api.Code {
	t.Helper()
	before, other := copied(patch), copied(image)
	got, code := correlate.Refine(patch, image, x, y)
	if !slices.Equal(patch.Pixels, before.Pixels) || !slices.Equal(image.Pixels, other.Pixels) {
		t.Fatalf("Refine(%v, %v) has changed an argument", before, other)
	}
	isPosition := func(x, y int) bool {
		return x >= 0 && y >= 0 && x <= image.Width-patch.Width && y <= image.Height-patch.Height
	}
	if !isPosition(x-1, y) || !isPosition(x+1, y) || !isPosition(x, y-1) || !isPosition(x, y+1) {
		if code != api.ErrOutside || !isZero(got.X, got.Y) {
			t.Fatalf("Refine(%v, %v, %d, %d) = %v, %d", patch, image, x, y, got, code)
		}
		return code
	}
	at := func(dx, dy int) *big.Rat { return scoreOf(patch, image, x+dx, y+dy) }
	wantX, okX := offsetOf(at(-1, 0), at(0, 0), at(1, 0))
	wantY, okY := offsetOf(at(0, -1), at(0, 0), at(0, 1))
	if !okX || !okY {
		if code != api.ErrDegenerate || !isZero(got.X, got.Y) {
			t.Fatalf("Refine(%v, %v, %d, %d) = %v, %d", patch, image, x, y, got, code)
		}
		return code
	}
	half := big.NewRat(1, 2)
	if code != api.OK || texts(got.X, got.Y) != textsOf(wantX, wantY) || wantX.Cmp(half) > 0 || new(big.Rat).Neg(wantY).Cmp(half) > 0 {
		t.Fatalf("Refine(%v, %v, %d, %d) = %s, %d, want %s", patch, image, x, y, texts(got.X, got.Y), code, textsOf(wantX, wantY))
	}
	return code
}

// P23.7: the offsets at all positions, by their definition.
func TestRefine(t *testing.T) {
	found := map[api.Code]int{}
	some(2500, func(r *rand.Rand) {
		patch, image := randomPair(r)
		for y := -1; y <= image.Height; y++ {
			for x := -1; x <= image.Width; x++ {
				found[wantRefined(t, patch, image, x, y)]++
			}
		}
	})
	if found[api.OK] < 500 || found[api.ErrOutside] < 1000 || found[api.ErrDegenerate] < 1000 {
		t.Errorf("codes %v", found)
	}
}

// P23.7: smooth hills, whose peaks are between pixels.
func TestRefineHills(t *testing.T) {
	found := 0
	some(150, func(r *rand.Rand) {
		hill := func(x, y, width int) int { return max(0, 60000-900*(x*x+y*y)-r.Intn(width)) }
		noise := pick(r, 1, 50, 1000)
		dx, dy := r.Intn(3)-1, r.Intn(3)-1
		patch := drawn(5, 5, 65535, func(x, y int) int { return hill(x-2, y-2, noise) })
		image := drawn(9, 9, 65535, func(x, y int) int { return hill(x-4-dx, y-4-dy, noise) })
		x, y, _, code := correlate.Best(patch, image)
		if code == api.OK && wantRefined(t, patch, image, x, y) == api.OK {
			found++
		}
	})
	if found < 100 {
		t.Errorf("%d peaks are found", found)
	}
}

// cross are a patch of one column and an image. The windows beside (1, 1) are the columns l and r, the window there is m; above it the window begins with up, below it ends with down.
func cross(l, m, r [3]int, up, down int) (patch, image api.Raster) {
	return of(9, []int{0}, []int{1}, []int{1}), of(9,
		[]int{0, up, 0}, []int{l[0], m[0], r[0]}, []int{l[1], m[1], r[1]}, []int{l[2], m[2], r[2]}, []int{0, down, 0})
}

// P23.7: a greater score on any side; equal scores on one side, on both sides of one direction, and on one side of both directions.
func TestRefineSides(t *testing.T) {
	// Their scores are 1/4, 3/4 and 1.
	low, mid, high := [3]int{0, 0, 1}, [3]int{0, 1, 2}, [3]int{0, 1, 1}
	for _, c := range []struct {
		l, m, r  [3]int
		up, down int
		code     api.Code
		want     string
	}{
		{low, mid, low, 9, 0, api.OK, "0 "},
		{high, mid, low, 9, 0, api.ErrDegenerate, ""},
		{low, mid, high, 9, 0, api.ErrDegenerate, ""},
		{mid, mid, mid, 9, 0, api.ErrDegenerate, ""},
		{mid, mid, low, 9, 0, api.OK, "-1/2 "},
		{low, mid, mid, 9, 0, api.OK, "1/2 "},
		{low, mid, low, 9, 2, api.ErrDegenerate, ""},
	} {
		patch, image := cross(c.l, c.m, c.r, c.up, c.down)
		wantRefined(t, patch, image, 1, 1)
		got, code := correlate.Refine(patch, image, 1, 1)
		if code != c.code || code == api.OK && texts(got.X) != c.want {
			t.Errorf("Refine(%v, %v) = %s, %d, want %s, %d", patch, image, texts(got.X, got.Y), code, c.want, c.code)
		}
		// The same along the other direction.
		flip := func(a api.Raster) api.Raster {
			return drawn(a.Height, a.Width, a.Max, func(x, y int) int { return pixel(a, y, x) })
		}
		wantRefined(t, flip(patch), flip(image), 1, 1)
		other, code := correlate.Refine(flip(patch), flip(image), 1, 1)
		if code != c.code || code == api.OK && (texts(other.Y) != c.want || texts(other.X) != texts(got.Y)) {
			t.Errorf("Refine of the flipped rasters = %s, %d", texts(other.X, other.Y), code)
		}
	}
}

// P23.7: rasters, then positions.
func TestRefineInvalid(t *testing.T) {
	patch, image := of(9, []int{1, 3}), drawn(5, 4, 9, func(x, y int) int { return (x*x + 2*y) % 10 })
	for _, a := range invalidRasters() {
		for _, pair := range [][2]api.Raster{{a, image}, {patch, a}, {a, a}} {
			for _, x := range []int{1, -5} {
				if got, code := correlate.Refine(pair[0], pair[1], x, x); code != api.ErrArgument || !isZero(got.X, got.Y) {
					t.Errorf("Refine(%v, %d) = %v, %d", pair, x, got, code)
				}
			}
		}
	}
	for _, n := range append(far(), -1, 0, 4, 5) {
		for _, at := range [][2]int{{n, 1}, {1, n}, {n, n}} {
			if got, code := correlate.Refine(patch, image, at[0], at[1]); code != api.ErrOutside || !isZero(got.X, got.Y) {
				t.Errorf("Refine at %v = %v, %d", at, got, code)
			}
		}
	}
	for _, great := range []api.Raster{drawn(6, 1, 9, func(x, y int) int { return x }), drawn(5, 1, 9, func(x, y int) int { return x }), drawn(1, 64, 9, func(x, y int) int { return y % 9 }), image} {
		for x := -1; x < 3; x++ {
			if got, code := correlate.Refine(great, image, x, 1); code != api.ErrOutside || !isZero(got.X, got.Y) {
				t.Errorf("Refine of %v = %v, %d", great, got, code)
			}
		}
	}
}
