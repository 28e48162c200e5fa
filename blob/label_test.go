package blob_test

import (
	"math/rand"
	"slices"
	"testing"

	"fiducial/api"
	"fiducial/blob"
)

// wantLabels fails the test if Label, Blobs and Holes do not return what they are defined to return; it returns the numbers of regions and of holes.
func wantLabels(t *testing.T, a api.Raster, threshold int) (regions, holes int) {
	t.Helper()
	before := slices.Clone(a.Pixels)
	labels, code := blob.Label(a, threshold)
	want, regions := labelsOf(a, threshold)
	if code != api.OK || !slices.Equal(labels, want) {
		t.Fatalf("Label(%v, %d) = %v, %d, want %v", a, threshold, labels, code, want)
	}
	blobs, code := blob.Blobs(a, threshold)
	if wanted := blobsOf(a, threshold); code != api.OK || !slices.Equal(blobs, wanted) {
		t.Fatalf("Blobs(%v, %d) = %v, %d, want %v", a, threshold, blobs, code, wanted)
	}
	holes, code = blob.Holes(a, threshold)
	if wanted := holesOf(a, threshold); code != api.OK || holes != wanted {
		t.Fatalf("Holes(%v, %d) = %d, %d, want %d", a, threshold, holes, code, wanted)
	}
	for i := range labels {
		labels[i] = 77
	}
	if !slices.Equal(a.Pixels, before) {
		t.Fatalf("pixels of %v have been changed", a)
	}
	return regions, holes
}

// bits is the raster of a size whose pixels are the bits of n.
func bits(width, height, n int) api.Raster {
	return drawn(width, height, 1, func(x, y int) int { return n >> (y*width + x) & 1 })
}

// P24.1, P24.2, P24.5: all rasters of small sizes with two grey values.
func TestAllSmall(t *testing.T) {
	counts := map[[2]int]int{}
	for _, s := range [][2]int{{1, 1}, {1, 2}, {2, 1}, {2, 2}, {1, 9}, {9, 1}, {3, 3}, {2, 6}, {6, 2}, {4, 4}, {5, 3}, {3, 5}} {
		for n := range 1 << (s[0] * s[1]) {
			regions, holes := wantLabels(t, bits(s[0], s[1], n), 1)
			counts[[2]int{regions, holes}]++
		}
	}
	for _, c := range [][2]int{{0, 0}, {1, 0}, {1, 1}, {2, 0}, {2, 1}, {8, 0}, {3, 1}, {1, 2}} {
		if counts[c] == 0 {
			t.Errorf("numbers of regions and holes: %v", counts)
		}
	}
}

// P24.1, P24.2, P24.5: rasters at random, with figures of several kinds, and thresholds below and above all pixels.
func TestRandom(t *testing.T) {
	regions, holes := map[int]int{}, map[int]int{}
	some(4000, func(r *rand.Rand) {
		a, threshold := random(r)
		n, h := wantLabels(t, a, threshold)
		regions[min(n, 20)]++
		holes[min(h, 6)]++
	})
	for n := range 7 {
		if regions[n] < 50 || holes[n] < 20 {
			t.Errorf("numbers of regions: %v, of holes: %v", regions, holes)
		}
	}
	if regions[20] < 100 {
		t.Errorf("numbers of regions: %v", regions)
	}
}

// P24.1, P24.2, P24.5: the greatest rasters: one winding region, one winding background, as many regions and as many holes as there can be.
func TestGreat(t *testing.T) {
	snake := func(x, y int) bool { return y%2 == 0 || x == y%4/2*63 }
	for _, c := range []struct {
		isBright       func(x, y int) bool
		regions, holes int
	}{
		{func(x, y int) bool { return true }, 1, 0},
		{func(x, y int) bool { return false }, 0, 0},
		{snake, 1, 0},
		{func(x, y int) bool { return !snake(x, y) }, 32, 0},
		{func(x, y int) bool { return snake(y, x) }, 1, 0},
		{func(x, y int) bool { return (x+y)%2 == 0 }, 2048, 0},
		{func(x, y int) bool { return x%2 == 0 || y%2 == 0 }, 1, 31 * 31},
		{func(x, y int) bool { return x%2 == 1 && y%2 == 1 }, 32 * 32, 0},
		{func(x, y int) bool { return x == 0 || y == 0 || x == 63 || y == 63 }, 1, 1},
		{func(x, y int) bool { return x > 0 && y > 0 && x < 63 && y < 63 }, 1, 0},
		{func(x, y int) bool { return min(x, y, 63-x, 63-y)%2 == 0 }, 16, 16},
	} {
		a := drawn(64, 64, 65535, func(x, y int) int {
			if c.isBright(x, y) {
				return 65535
			}
			return 65534
		})
		if regions, holes := wantLabels(t, a, 65535); regions != c.regions || holes != c.holes {
			t.Errorf("%d regions, %d holes, want %d and %d", regions, holes, c.regions, c.holes)
		}
	}
}

// P24.1, P24.5: regions do not touch across a corner, holes do; a hole reaches no border, and no outside but across a corner.
func TestCorners(t *testing.T) {
	for _, c := range []struct {
		rows           string
		regions, holes int
	}{
		{"x./.x", 2, 0},
		{".x/x.", 2, 0},
		{"xxx/x.x/xxx", 1, 1},
		{"xxx/x.x/xx.", 1, 0},
		{".xx/x.x/xxx", 1, 0},
		{"xx./x.x/xxx", 1, 0},
		{"xxx/x.x/.xx", 1, 0},
		{".x./x.x/.x.", 4, 0},
		{"xxxx/x..x/xxxx", 1, 1},
		{"xxxx/x.xx/xx.x/xxxx", 1, 1},
		{"xxxxx/x.x.x/xxxxx", 1, 2},
		{"xxxxx/x...x/x.x.x/x...x/xxxxx", 2, 1},
		{"xxxxx/x.x.x/xx.xx/x.x.x/xxxxx", 1, 1},
		{"xxxxx/x...x/x...x/x.x.x/xx.xx", 2, 0},
		{".....", 0, 0},
		{"x", 1, 0},
		{".", 0, 0},
		{"x.x", 2, 0},
		{"xxxxxxx/x.....x/x.xxx.x/x.x.x.x/x.xxx.x/x.....x/xxxxxxx", 2, 2},
		{"xxxxxxx/x.....x/x.xxx.x/x.x.x.x/x.xxxxx/x.....x/xxxxxxx", 1, 2},
	} {
		if regions, holes := wantLabels(t, sketched(c.rows), 1); regions != c.regions || holes != c.holes {
			t.Errorf("%s: %d regions, %d holes, want %d and %d", c.rows, regions, holes, c.regions, c.holes)
		}
	}
}

// P24.1, P24.2: the example of the chapter.
func TestExample(t *testing.T) {
	a := of(9, []int{9, 9, 0, 0}, []int{0, 9, 0, 5}, []int{0, 0, 0, 5})
	labels, code := blob.Label(a, 5)
	if code != api.OK || !slices.Equal(labels, []int{0, 0, -1, -1, -1, 0, -1, 1, -1, -1, -1, 1}) {
		t.Errorf("Label = %v, %d", labels, code)
	}
	want := []api.Blob{
		{Area: 3, Right: 1, Bottom: 1, SumX: 2, SumY: 1, SumXX: 2, SumXY: 1, SumYY: 1, Mass: 27, MassX: 18, MassY: 9},
		{Area: 2, Left: 3, Top: 1, Right: 3, Bottom: 2, SumX: 6, SumY: 3, SumXX: 18, SumXY: 9, SumYY: 5, Mass: 10, MassX: 30, MassY: 15},
	}
	if l, code := blob.Blobs(a, 5); code != api.OK || !slices.Equal(l, want) {
		t.Errorf("Blobs = %v, %d", l, code)
	}
	// A pixel of the threshold itself is foreground, one below it is not.
	if l, code := blob.Blobs(a, 6); code != api.OK || !slices.Equal(l, want[:1]) {
		t.Errorf("Blobs = %v, %d", l, code)
	}
	if l, code := blob.Blobs(a, 0); code != api.OK || len(l) != 1 || l[0].Area != 12 || l[0].Mass != 37 {
		t.Errorf("Blobs = %v, %d", l, code)
	}
	if l, code := blob.Blobs(a, 10); code != api.OK || len(l) != 0 {
		t.Errorf("Blobs = %v, %d", l, code)
	}
}

// P24.2: the blobs of regions are valid, also with the least and the greatest grey values.
func TestBlobsValid(t *testing.T) {
	some(1000, func(r *rand.Rand) {
		a, threshold := random(r)
		l, _ := blob.Blobs(a, threshold)
		for _, b := range l {
			if code := blob.Check(b); code != api.OK {
				t.Fatalf("Check(%v) = %d", b, code)
			}
		}
	})
	for _, grey := range []int{0, 65535} {
		a := drawn(64, 64, 65535, func(x, y int) int { return grey })
		l, code := blob.Blobs(a, grey)
		if code != api.OK || len(l) != 1 || blob.Check(l[0]) != api.OK || l[0].Area != 4096 || l[0].MassX != 2016*64*grey {
			t.Fatalf("Blobs = %v, %d", l, code)
		}
	}
}

// windows are four times the sum of P24.6: a window is a pixel with its neighbours to the right, below, and both; beyond the border there is background.
func windows(a api.Raster, threshold int) int {
	isBright := func(x, y int) bool {
		return x >= 0 && y >= 0 && x < a.Width && y < a.Height && pixel(a, x, y) >= threshold
	}
	sum := 0
	for y := -1; y < a.Height; y++ {
		for x := -1; x < a.Width; x++ {
			p, q, r, s := isBright(x, y), isBright(x+1, y), isBright(x, y+1), isBright(x+1, y+1)
			n := 0
			for _, bright := range []bool{p, q, r, s} {
				if bright {
					n++
				}
			}
			switch {
			case n == 1:
				sum++
			case n == 3:
				sum--
			case n == 2 && p == s:
				sum += 2
			}
		}
	}
	return sum
}

// P24.6: Euler's relation, with the sum that counts windows.
func TestEuler(t *testing.T) {
	check := func(a api.Raster, threshold int) {
		blobs, code := blob.Blobs(a, threshold)
		holes, holesCode := blob.Holes(a, threshold)
		if code != api.OK || holesCode != api.OK || 4*(len(blobs)-holes) != windows(a, threshold) {
			t.Fatalf("%v with %d: %d regions, %d holes, windows %d", a, threshold, len(blobs), holes, windows(a, threshold))
		}
	}
	for n := range 1 << 16 {
		check(bits(4, 4, n), 1)
	}
	some(20000, func(r *rand.Rand) { check(bits(5, 5, r.Intn(1<<25)), 1) })
	some(1500, func(r *rand.Rand) { check(random(r)) })
	some(60, func(r *rand.Rand) {
		isBright := figure(r, 64, 64)
		check(drawn(64, 64, 1, func(x, y int) int {
			if isBright(x, y) {
				return 1
			}
			return 0
		}), 1)
	})
}

// P24.1, P24.2, P24.5: no raster comes first, then a threshold outside its range.
func TestInvalidRaster(t *testing.T) {
	expect := func(a api.Raster, threshold int, want api.Code) {
		t.Helper()
		labels, labelCode := blob.Label(a, threshold)
		blobs, blobsCode := blob.Blobs(a, threshold)
		holes, holesCode := blob.Holes(a, threshold)
		if labelCode != want || len(labels) != 0 || blobsCode != want || len(blobs) != 0 || holesCode != want || holes != 0 {
			t.Errorf("%v with %d: %v, %d, %v, %d, %d, %d, want %d", a, threshold, labels, labelCode, blobs, blobsCode, holes, holesCode, want)
		}
	}
	outside := append(far(), -1, maxThreshold+1)
	for _, a := range invalidRasters() {
		for _, threshold := range append(outside, 0, 1) {
			expect(a, threshold, api.ErrArgument)
		}
	}
	for _, a := range []api.Raster{sketched("xxx/x.x/xxx"), of(65535, []int{65535}), of(1, []int{0})} {
		for _, threshold := range outside {
			expect(a, threshold, api.ErrRange)
		}
		for _, threshold := range []int{0, 1, 2, 65535, maxThreshold} {
			wantLabels(t, a, threshold)
		}
	}
}
