package frame_test

import (
	"math/rand"
	"slices"
	"testing"

	"fiducial/api"
	"fiducial/frame"
)

// lists calls back with each list of n numbers below m.
func lists(n, m int, check func(l []int)) {
	l := make([]int, n)
	for {
		check(slices.Clone(l))
		i := 0
		for i < n && l[i] == m-1 {
			l[i] = 0
			i++
		}
		if i == n {
			return
		}
		l[i]++
	}
}

// mustRestore fails the test if the residuals of a raster are not as defined, or do not give it back.
func mustRestore(t *testing.T, a api.Raster) {
	t.Helper()
	before := framed(a)
	before = copied(before)
	want := residualsOf(a)
	got, code := frame.Residuals(a)
	if code != api.OK || !slices.Equal(got, want) || !sameRaster(a, before.Raster) {
		t.Fatalf("Residuals(%v) = %v, %d, want %v", a, got, code, want)
	}
	back, code := frame.Restore(a.Width, a.Height, a.Max, got)
	if code != api.OK || !sameRaster(back, a) || !slices.Equal(got, want) {
		t.Fatalf("Restore(%v) = %v, %d, want %v", got, back, code, a)
	}
	for i := range got {
		got[i] = -7
	}
	if !sameRaster(back, before.Raster) || !sameRaster(a, before.Raster) {
		t.Fatalf("residuals of %v share memory", before)
	}
}

// P15.2: all rasters of some sizes, and all lists of residuals.
func TestResidualsAll(t *testing.T) {
	for _, size := range [][3]int{{1, 1, 9}, {1, 1, 10}, {2, 1, 8}, {1, 2, 7}, {3, 1, 4}, {1, 3, 5}, {2, 2, 1}, {2, 2, 2}, {2, 2, 3}, {2, 2, 4}, {2, 2, 5}, {2, 2, 6}, {3, 2, 1}, {3, 2, 2}, {2, 3, 2}, {2, 3, 3}, {3, 3, 1}} {
		width, height, most := size[0], size[1], size[2]
		seen := map[int]bool{}
		lists(width*height, most+1, func(l []int) {
			mustRestore(t, api.Raster{Width: width, Height: height, Max: most, Pixels: l})
			a, code := frame.Restore(width, height, most, l)
			if code != api.OK || !slices.Equal(residualsOf(a), l) {
				t.Fatalf("Restore(%v) = %v, %d", l, a, code)
			}
			n := 0
			for _, g := range a.Pixels {
				n = n*(most+1) + g
			}
			seen[n] = true
		})
		n := 1
		for range width * height {
			n *= most + 1
		}
		if len(seen) != n {
			t.Errorf("%d of %d rasters", len(seen), n)
		}
	}
}

// P15.2: rasters of all kinds.
func TestResiduals(t *testing.T) {
	some(800, func(r *rand.Rand) { mustRestore(t, randomRaster(r)) })
	for _, most := range []int{1, 2, 65534, 65535} {
		a := api.Raster{Width: 64, Height: 64, Max: most}
		for i := range 64 * 64 {
			a.Pixels = append(a.Pixels, i%2*most)
		}
		mustRestore(t, a)
	}
	// The residuals 0, 1, 2 and 3 belong to the differences 0, 1, -1 and 2.
	for v, s := range []int{0, 1, -1, 2, -2, 3, -3, 4} {
		got, code := frame.Restore(2, 1, 100, []int{99, v})
		if code != api.OK || got.Pixels[0] != 50 || got.Pixels[1] != 50+s || signed(v) != s {
			t.Errorf("the residual %d: %v, %d", v, got, code)
		}
	}
	for _, c := range []struct {
		a    api.Raster
		want []int
	}{
		{of(3, []int{1, 3, 0}), []int{1, 3, 1}},
		{of(9, []int{5, 5}, []int{5, 5}), []int{9, 0, 0, 0}},
		{of(9, []int{4, 6}, []int{1, 2}), []int{7, 3, 6, 2}},
		{of(9, []int{1, 2}, []int{4, 9}), []int{1, 1, 5, 9}},
		{of(9, []int{2, 1}, []int{4, 3}), []int{3, 2, 3, 0}},
		{of(9, []int{4, 3}, []int{2, 7}), []int{7, 2, 4, 9}},
	} {
		if got, code := frame.Residuals(c.a); code != api.OK || !slices.Equal(got, c.want) {
			t.Errorf("Residuals(%v) = %v, %d, want %v", c.a, got, code, c.want)
		}
	}
}

// P15.2: no raster, sizes out of range, too few or too many residuals, and residuals out of range, in this order.
func TestResidualsErrors(t *testing.T) {
	for _, a := range badRasters() {
		if l, code := frame.Residuals(a); code != api.ErrArgument || len(l) > 0 {
			t.Errorf("Residuals(%v) = %v, %d", a, l, code)
		}
	}
	refused := func(width, height, greatest int, l []int, want api.Code) {
		t.Helper()
		if a, code := frame.Restore(width, height, greatest, l); code != want || !sameRaster(a, api.Raster{}) {
			t.Errorf("Restore(%d, %d, %d, %v) = %v, %d, want %d", width, height, greatest, l, a, code, want)
		}
	}
	for _, l := range [][]int{nil, {0, 0, 0, 0, 0, 0}, {-1}, {70000, 0, 0, 0, 0, 0}} {
		for _, n := range append(far(), 0) {
			refused(n, 2, 9, l, api.ErrRange)
			refused(3, n, 9, l, api.ErrRange)
			refused(n, n, 9, l, api.ErrRange)
			refused(3, 2, n, l, api.ErrRange)
			refused(n, n, n, l, api.ErrRange)
		}
		refused(65, 2, 9, l, api.ErrRange)
		refused(3, 65, 9, l, api.ErrRange)
	}
	for _, l := range [][]int{nil, {}, {0}, {0, 0, 0, 0, 0}, {0, 0, 0, 0, 0, 0, 0}, {-1}, {10, 0, 0, 0, 0, 0, 0}} {
		refused(3, 2, 9, l, api.ErrMismatch)
	}
	for i := range 6 {
		for _, v := range append(far(), 10) {
			l := make([]int, 6)
			l[i] = v
			refused(3, 2, 9, l, api.ErrRange)
		}
	}
	refused(1, 1, 65535, []int{65536}, api.ErrRange)
	for _, size := range [][2]int{{1, 1}, {64, 64}, {64, 1}, {1, 64}} {
		for _, greatest := range []int{1, 65535} {
			l := slices.Repeat([]int{greatest}, size[0]*size[1])
			a, code := frame.Restore(size[0], size[1], greatest, l)
			if code != api.OK || !slices.Equal(residualsOf(a), l) {
				t.Errorf("Restore(%v) with %d: %d", size, greatest, code)
			}
		}
	}
}

// P15.7: in one row or one column a number that is added to all pixels changes the first residual only.
func TestShifts(t *testing.T) {
	some(500, func(r *rand.Rand) {
		a := randomRaster(r)
		if r.Intn(2) == 0 {
			a.Width, a.Pixels = 1, a.Pixels[:a.Height]
		} else {
			a.Height, a.Pixels = 1, a.Pixels[:a.Width]
		}
		shift := r.Intn(a.Max + 1)
		b := copied(framed(a)).Raster
		for i, g := range b.Pixels {
			b.Pixels[i] = (g + shift) % (a.Max + 1)
		}
		first, _ := frame.Residuals(a)
		second, code := frame.Residuals(b)
		if code != api.OK || !slices.Equal(first[1:], second[1:]) || (first[0] == second[0]) != (shift == 0) {
			t.Fatalf("residuals of %v and of %v: %v and %v", a, b, first, second)
		}
	})
}

// P15.3: the lengths of codes with all parameters.
func TestBits(t *testing.T) {
	check := func(row []int) {
		t.Helper()
		before := slices.Clone(row)
		for k, want := range lengths(row) {
			if got, code := frame.Bits(row, k); code != api.OK || got != want {
				t.Fatalf("Bits(%v, %d) = %d, %d, want %d", row, k, got, code, want)
			}
		}
		wantK, wantBits := bestOf(row)
		if k, bits, code := frame.Best(row); code != api.OK || k != wantK || bits != wantBits || !slices.Equal(row, before) {
			t.Fatalf("Best(%v) = %d, %d, %d, want %d, %d", row, k, bits, code, wantK, wantBits)
		}
	}
	check(nil)
	check([]int{})
	for _, v := range []int{0, 1, 2, 3, 4, 65534, 65535, 32767, 32768} {
		check([]int{v})
		check(slices.Repeat([]int{v}, 64))
	}
	for k := range 17 {
		check([]int{min(1<<k, 65535)})
		check([]int{1<<k - 1})
		check(slices.Repeat([]int{1<<k - 1, min(1<<k, 65535)}, 32))
	}
	lists(3, 9, check)
	some(3000, func(r *rand.Rand) {
		row := make([]int, r.Intn(65))
		most := 1 << r.Intn(17)
		for i := range row {
			row[i] = r.Intn(most)
		}
		check(row)
	})
	// The codes have as many digits as counted.
	lists(2, 20, func(row []int) {
		for k := range 17 {
			if bits, _ := frame.Bits(row, k); bits != len(coded(row, k)) {
				t.Fatalf("Bits(%v, %d) = %d", row, k, bits)
			}
		}
	})
	row := []int{1, 3, 1}
	for k, want := range []int{8, 7, 9} {
		if bits, code := frame.Bits(row, k); bits != want || code != api.OK {
			t.Errorf("Bits(%v, %d) = %d, %d", row, k, bits, code)
		}
	}
	if k, bits, code := frame.Best(row); k != 1 || bits != 7 || code != api.OK {
		t.Errorf("Best(%v) = %d, %d, %d", row, k, bits, code)
	}
	// Of two parameters with which the sum is the same the least one counts.
	if k, bits, code := frame.Best([]int{1}); k != 0 || bits != 2 || code != api.OK {
		t.Errorf("Best = %d, %d, %d", k, bits, code)
	}
}

// P15.3: a parameter that is none, too many residuals, and residuals out of range, in this order.
func TestBitsErrors(t *testing.T) {
	long, bad, longBad := make([]int, 65), []int{3, -1}, slices.Repeat([]int{-1}, 65)
	for _, k := range append(far(), 17) {
		for _, row := range [][]int{nil, {1}, long, bad, longBad} {
			if n, code := frame.Bits(row, k); code != api.ErrRange || n != 0 {
				t.Errorf("Bits(%v, %d) = %d, %d", row, k, n, code)
			}
		}
	}
	refused := func(row []int, want api.Code) {
		t.Helper()
		for k := range 17 {
			if n, code := frame.Bits(row, k); code != want || n != 0 {
				t.Errorf("Bits(%v, %d) = %d, %d, want %d", row, k, n, code, want)
			}
		}
		if k, n, code := frame.Best(row); code != want || k != 0 || n != 0 {
			t.Errorf("Best(%v) = %d, %d, %d, want %d", row, k, n, code, want)
		}
	}
	refused(long, api.ErrLimit)
	refused(longBad, api.ErrLimit)
	refused(make([]int, 100000), api.ErrLimit)
	for _, v := range far() {
		for i := range 3 {
			row := []int{0, 65535, 1}
			row[i] = v
			refused(row, api.ErrRange)
		}
		refused(append(make([]int, 63), v), api.ErrRange)
	}
}
