package pyramid_test

import (
	"math/rand"
	"slices"
	"testing"

	"fiducial/api"
	"fiducial/pyramid"
)

// P16.2, P16.3: all bands of small rasters with elements of small magnitudes: they are joined as defined, and those that are joined to a raster are its bands.
func TestJoinSmall(t *testing.T) {
	for _, size := range [][2]int{{1, 1}, {2, 1}, {1, 2}, {3, 1}, {1, 3}, {2, 2}, {3, 2}} {
		n := size[0] * size[1]
		base, count := 7, 1
		if n > 4 {
			base = 5
		}
		for range n {
			count *= base
		}
		for k := range count {
			l := digits(k, base, n)
			for i := range l {
				l[i] -= base / 2
			}
			b := cut(size[0], size[1], 2, l)
			wantJoin(t, b)
			a, code := pyramid.Join(b)
			if code != api.OK {
				continue
			}
			if again, e := pyramid.Split(a); e != api.OK || !sameBands(again, b) {
				t.Fatalf("Split of the raster of %v = %v, %d", b, again, e)
			}
		}
	}
}

// cut are the bands of a size whose elements are those of a list.
func cut(width, height, most int, l []int) api.Bands {
	p, q := sizes(width)
	s, t := sizes(height)
	b := api.Bands{Width: width, Height: height, Max: most}
	b.Low, l = l[:p*s:p*s], l[p*s:]
	b.Right, l = l[:q*s:q*s], l[q*s:]
	b.Down, b.Corner = l[:p*t:p*t], l[p*t:]
	return b
}

// P16.2: bands of any elements; most of them have pixels that are no grey values, some only one.
func TestJoin(t *testing.T) {
	codes := map[api.Code]int{}
	some(4000, func(r *rand.Rand) {
		b := splitOf(random(r))
		for range r.Intn(4) {
			l := pick(r, lists(b)...)
			if len(l) > 0 {
				i := r.Intn(len(l))
				l[i] = changed(r, l[i])
			}
		}
		wantJoin(t, b)
		_, code := pyramid.Join(b)
		codes[code]++
	})
	if len(codes) != 2 || codes[api.OK] < 100 || codes[api.ErrOutside] < 100 {
		t.Errorf("numbers of codes: %v", codes)
	}
	// The ends of the range of grey values, and of that of elements.
	for _, c := range []struct {
		low  int
		code api.Code
	}{{0, api.OK}, {9, api.OK}, {10, api.ErrOutside}, {-1, api.ErrOutside}, {1 << 20, api.ErrOutside}, {-1 << 20, api.ErrOutside}} {
		a, code := pyramid.Join(api.Bands{Width: 1, Height: 1, Max: 9, Low: []int{c.low}})
		if code != c.code || code == api.OK && !same(a, of(9, []int{c.low})) || code != api.OK && !same(a, api.Raster{}) {
			t.Errorf("Join of the pixel %d: %v, %d", c.low, a, code)
		}
	}
	for _, d := range []int{9, -9, 8, -8, 10, -10, 1 << 20, -1 << 20} {
		wantJoin(t, cut(2, 1, 9, []int{4, d}))
		wantJoin(t, cut(1, 2, 9, []int{4, d}))
		wantJoin(t, cut(2, 2, 9, []int{4, d, d, d}))
	}
}

// changed is another element of a band.
func changed(r *rand.Rand, v int) int {
	return pick(r, min(v+1, 1<<20), max(v-1, -1<<20), -v, 1<<20, -1<<20, r.Intn(1<<21+1)-1<<20)
}

// P16.2: bands that are not valid, whatever pixels they would have.
func TestJoinInvalid(t *testing.T) {
	for _, b := range invalidBands() {
		before := copied(b)
		if a, code := pyramid.Join(b); code != api.ErrArgument || !same(a, api.Raster{}) || !sameBands(b, before) {
			t.Errorf("Join(%v) = %v, %d", b, a, code)
		}
	}
}

// P16.2, P16.3: the example, and the result of what was split.
func TestJoinOfSplit(t *testing.T) {
	b := api.Bands{Width: 3, Height: 2, Max: 9, Low: []int{3, 4}, Right: []int{1}, Down: []int{-1, 9}, Corner: []int{3}}
	if a, code := pyramid.Join(b); code != api.OK || !same(a, of(9, []int{5, 2, 9}, []int{4, 4, 0})) {
		t.Errorf("Join of the example: %v, %d", a, code)
	}
	some(800, func(r *rand.Rand) {
		a := random(r)
		b, _ := pyramid.Split(a)
		again, code := pyramid.Join(b)
		if code != api.OK || !same(again, a) {
			t.Fatalf("Join(Split(%v)) = %v, %d", a, again, code)
		}
		overwrite(lists(b)...)
		if !same(again, a) {
			t.Fatalf("Join of the bands of %v shares memory with them", a)
		}
	})
}

// P16.3: Restore of Build, for all numbers of levels.
func TestRestoreOfBuild(t *testing.T) {
	some(200, func(r *rand.Rand) {
		a := random(r)
		for n := 1; n <= 6; n++ {
			levels, _ := pyramid.Build(a, n)
			b, code := pyramid.Restore(levels)
			if code != api.OK || !same(b, a) {
				t.Fatalf("Restore of %d levels of %v = %v, %d", n, a, b, code)
			}
			for _, level := range levels {
				overwrite(lists(level)...)
			}
			if !same(b, a) {
				t.Fatalf("Restore of the levels of %v shares memory with them", a)
			}
		}
	})
}

// P16.2: of all levels but the last one, Low is not read.
func TestRestoreIgnoresLow(t *testing.T) {
	some(200, func(r *rand.Rand) {
		a := random(r)
		levels, _ := pyramid.Build(a, 2+r.Intn(5))
		for _, b := range levels[:len(levels)-1] {
			for i := range b.Low {
				b.Low[i] = pick(r, 0, 1<<20, -1<<20, r.Intn(100))
			}
		}
		if b, code := pyramid.Restore(levels); code != api.OK || !same(b, a) {
			t.Fatalf("Restore of %v = %v, %d", levels, b, code)
		}
	})
}

// P16.2: levels that do not fit one another, or have pixels that are no grey values: the last one with an error counts.
func TestRestore(t *testing.T) {
	codes := map[api.Code]int{}
	some(4000, func(r *rand.Rand) {
		a := random(r)
		levels, _ := pyramid.Build(a, 1+r.Intn(6))
		for range r.Intn(4) {
			b := &levels[r.Intn(len(levels))]
			switch l := pick(r, lists(*b)...); r.Intn(3) {
			case 0:
				b.Max = pick(r, max(b.Max-1, 1), min(b.Max+1, 65535))
			case 1:
				*b = splitOf(random(r))
			default:
				if len(l) > 0 {
					i := r.Intn(len(l))
					l[i] = changed(r, l[i])
				}
			}
		}
		codes[wantRestore(t, levels)]++
	})
	if len(codes) != 3 || codes[api.OK] < 200 || codes[api.ErrOutside] < 200 || codes[api.ErrMismatch] < 200 {
		t.Errorf("numbers of codes: %v", codes)
	}
}

// P16.2: the order of the errors from level to level.
func TestRestoreOrder(t *testing.T) {
	// The upper level needs a Low of one pixel.
	upper := cut(2, 2, 9, []int{4, 0, 0, 0})
	bad := cut(2, 2, 9, []int{4, 20, 0, 0})
	one := func(most, g int) api.Bands { return cut(1, 1, most, []int{g}) }
	for i, c := range []struct {
		levels []api.Bands
		code   api.Code
	}{
		{[]api.Bands{upper, one(9, 4)}, api.OK},
		{[]api.Bands{bad, one(9, 4)}, api.ErrOutside},
		{[]api.Bands{upper, one(9, 10)}, api.ErrOutside},
		// The size and Max of a level are asked before it is joined, and after the one behind it is.
		{[]api.Bands{bad, one(8, 4)}, api.ErrMismatch},
		{[]api.Bands{upper, one(10, 4)}, api.ErrMismatch},
		{[]api.Bands{upper, one(8, 10)}, api.ErrOutside},
		{[]api.Bands{upper, cut(2, 1, 9, []int{4, 0})}, api.ErrMismatch},
		{[]api.Bands{upper, cut(1, 2, 9, []int{4, 0})}, api.ErrMismatch},
		{[]api.Bands{upper, cut(2, 1, 9, []int{4, 30})}, api.ErrOutside},
		{[]api.Bands{upper, bad, one(8, 4)}, api.ErrMismatch},
		{[]api.Bands{upper, bad, one(9, 4)}, api.ErrOutside},
		{[]api.Bands{upper, upper, one(9, 4)}, api.ErrMismatch},
		// A pixel that fits the Max of its own level only is outside in the one before.
		{[]api.Bands{cut(2, 1, 9, []int{0, 18}), one(9, 9)}, api.ErrOutside},
		{[]api.Bands{cut(2, 1, 9, []int{0, 0}), one(9, 9)}, api.OK},
	} {
		if code := wantRestore(t, c.levels); code != c.code {
			t.Errorf("case %d: %d, want %d", i, code, c.code)
		}
	}
}

// P16.2: the number of levels comes first, then levels that are not valid, wherever they stand.
func TestRestoreInvalid(t *testing.T) {
	good := cut(1, 1, 9, []int{4})
	outside := cut(1, 1, 9, []int{44})
	for _, bad := range invalidBands() {
		for n := range 9 {
			for k := range n {
				for _, other := range []api.Bands{good, outside} {
					levels := slices.Repeat([]api.Bands{other}, n)
					levels[k] = bad
					want := api.ErrArgument
					if n > 6 {
						want = api.ErrRange
					}
					if a, code := pyramid.Restore(levels); code != want || !same(a, api.Raster{}) {
						t.Fatalf("Restore(%v) = %v, %d", levels, a, code)
					}
				}
			}
		}
	}
	for _, n := range []int{0, 7, 8, 64, 1000} {
		if a, code := pyramid.Restore(slices.Repeat([]api.Bands{good}, n)); code != api.ErrRange || !same(a, api.Raster{}) {
			t.Errorf("Restore of %d levels: %v, %d", n, a, code)
		}
	}
	for n := 1; n <= 6; n++ {
		if a, code := pyramid.Restore(slices.Repeat([]api.Bands{good}, n)); code != api.OK || !same(a, of(9, []int{4})) {
			t.Errorf("Restore of %d levels: %v, %d", n, a, code)
		}
	}
}
