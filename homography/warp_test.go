package homography_test

import (
	"math"
	"math/big"
	"math/rand"
	"slices"
	"testing"

	"fiducial/api"
	"fiducial/homography"
)

// raster has grey values at random, none of them 0.
func raster(r *rand.Rand, width, height, most int) api.Raster {
	a := api.Raster{Width: width, Height: height, Max: most}
	for range width * height {
		a.Pixels = append(a.Pixels, 1+r.Intn(most))
	}
	return a
}

// isIn reports whether x is from 64 k on, below 64 k + 64.
func isIn(x *big.Rat, k int) bool { return x.Cmp(rat(64*k)) >= 0 && x.Cmp(rat(64*k+64)) < 0 }

// pixelOf is the pixel of r that contains the point that h takes to the centre of (x, y): -1 if the point lies at infinity, -2 if no pixel contains it.
func pixelOf(h api.Homography, r api.Raster, x, y int) (i, j int) {
	p := solve(bigs(h[:]...), []*big.Rat{rat(64*x + 32), rat(64*y + 32), rat(1)})
	if p[2].Sign() == 0 {
		return -1, -1
	}
	u, v := quo(p[0], p[2]), quo(p[1], p[2])
	for i := range r.Width {
		for j := range r.Height {
			if isIn(u, i) && isIn(v, j) {
				return i, j
			}
		}
	}
	return -2, -2
}

// maps are homographies that leave much of small rasters in sight: shifts and scales with points on the borders of pixels, turns, and maps with a horizon among the pixels.
func maps(r *rand.Rand) api.Homography {
	n := func(l ...int) *big.Rat { return rat(pick(r, l...)) }
	zero, one := rat(0), rat(1)
	var l []*big.Rat
	switch r.Intn(6) {
	case 0:
		l = []*big.Rat{one, zero, n(-64, -32, 0, 32, 64, 31, 33), zero, one, n(-32, 0, 32, 96, 1), zero, zero, one}
	case 1:
		l = []*big.Rat{n(1, 2, -1, -2), zero, n(-64, 0, 128, 192), zero, n(1, 3, -1), n(0, 64, 160), zero, zero, n(1, 2, 3)}
	case 2:
		l = []*big.Rat{zero, n(1, -1), n(0, 64, 192), n(1, -1), zero, n(0, 192, 200), zero, zero, one}
	case 3:
		l = []*big.Rat{n(64, 100, -64), n(0, 3), n(0, 64, 999), n(0, -5), n(64, 80, -70), n(0, 640), n(0, 1, -1), n(1, -1), n(32, 64, -96, 160, 5)}
	case 4:
		// Centres of pixels come from infinity.
		return inverse(homographyOf([]*big.Rat{one, n(0, 1), zero, zero, one, zero, n(1, 0), n(1, -1), n(-64, -96, -160, 0, -192)}))
	default:
		l = matrix(r)
	}
	if determinant(l).Sign() == 0 {
		return maps(r)
	}
	return homographyOf(l)
}

// inverse is the inverse of h, if h is one.
func inverse(h api.Homography) api.Homography {
	g, code := homography.Inverse(h)
	if code != api.OK {
		return homography.Identity()
	}
	return g
}

// P27.9: every pixel of warped rasters.
func TestWarp(t *testing.T) {
	inside, beside, infinite := 0, 0, 0
	some(1000, func(r *rand.Rand) {
		a := raster(r, 1+r.Intn(5), 1+r.Intn(5), pick(r, 1, 9, 65535))
		before := slices.Clone(a.Pixels)
		h, width, height := maps(r), 1+r.Intn(6), 1+r.Intn(6)
		got, code := homography.Warp(h, a, width, height)
		if code != api.OK || got.Width != width || got.Height != height || got.Max != a.Max || len(got.Pixels) != width*height {
			t.Fatalf("Warp(%s, %v, %d, %d) = %v, %d", text(h[:]...), a, width, height, got, code)
		}
		for k, grey := range got.Pixels {
			i, j := pixelOf(h, a, k%width, k/width)
			want := 0
			switch i {
			case -1:
				infinite++
			case -2:
				beside++
			default:
				inside++
				want = a.Pixels[j*a.Width+i]
			}
			if grey != want {
				t.Fatalf("Warp(%s, %v, %d, %d) has %d at %d, want %d", text(h[:]...), a, width, height, grey, k, want)
			}
		}
		for k := range got.Pixels {
			got.Pixels[k] = -1
		}
		if !slices.Equal(a.Pixels, before) {
			t.Fatal("Warp shares memory")
		}
	})
	if inside < 1000 || beside < 1000 || infinite < 60 {
		t.Errorf("%d inside, %d beside, %d from infinity", inside, beside, infinite)
	}
}

// P27.9: the identity returns the part of the raster, also of the greatest size, with zeros beside it.
func TestWarpIdentity(t *testing.T) {
	r := rand.New(rand.NewSource(9))
	for _, size := range [][4]int{{1, 1, 1, 1}, {64, 64, 64, 64}, {64, 64, 30, 20}, {3, 5, 64, 1}, {3, 5, 1, 64}, {5, 3, 4, 4}, {1, 1, 64, 64}} {
		a := raster(r, size[0], size[1], 255)
		got, code := homography.Warp(homography.Identity(), a, size[2], size[3])
		if code != api.OK || got.Width != size[2] || got.Height != size[3] || got.Max != 255 {
			t.Fatalf("Warp to %v: %v, %d", size, got, code)
		}
		for k, grey := range got.Pixels {
			x, y, want := k%size[2], k/size[2], 0
			if x < size[0] && y < size[1] {
				want = a.Pixels[y*size[0]+x]
			}
			if grey != want {
				t.Fatalf("Warp to %v has %d at %d, want %d", size, grey, k, want)
			}
		}
	}
	// A shift by half a pixel moves centres to borders, which belong to the pixel behind them.
	row := api.Raster{Width: 3, Height: 1, Max: 9, Pixels: []int{1, 2, 3}}
	for by, want := range map[int][]int{-33: {2, 3, 0}, -32: {2, 3, 0}, -31: {1, 2, 3}, 0: {1, 2, 3}, 32: {1, 2, 3}, 33: {0, 1, 2}} {
		if got, code := homography.Warp(nine(1, 0, by, 0, 1, 0, 0, 0, 1), row, 3, 1); code != api.OK || !slices.Equal(got.Pixels, want) {
			t.Errorf("shift by %d: %v, %d", by, got.Pixels, code)
		}
	}
}

// P27.9: the errors of Warp in their order.
func TestWarpErrors(t *testing.T) {
	good := raster(rand.New(rand.NewSource(1)), 2, 3, 9)
	warp := func(h api.Homography, a api.Raster, width, height int, want api.Code) {
		t.Helper()
		got, code := homography.Warp(h, a, width, height)
		if code != want || got.Width != 0 || got.Height != 0 || got.Max != 0 || len(got.Pixels) > 0 {
			t.Errorf("Warp = %v, %d, want %d", got, code, want)
		}
	}
	unit := homography.Identity()
	for _, n := range []int{0, -1, 65, math.MinInt, math.MaxInt} {
		warp(unit, good, n, 1, api.ErrRange)
		warp(unit, good, 1, n, api.ErrRange)
		warp(unit, good, n, n, api.ErrRange)
	}
	for _, a := range invalidRasters() {
		warp(unit, a, 1, 1, api.ErrArgument)
		warp(unit, a, 0, 1, api.ErrArgument)
	}
	for _, h := range invalidMaps() {
		warp(h, good, 1, 1, api.ErrArgument)
		warp(h, good, 65, 1, api.ErrArgument)
		warp(h, api.Raster{}, 65, 1, api.ErrArgument)
	}
	if _, code := homography.Warp(unit, good, 64, 64); code != api.OK {
		t.Errorf("the greatest size: %d", code)
	}
}
