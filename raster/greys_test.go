package raster_test

import (
	"math"
	"math/big"
	"math/rand"
	"slices"
	"testing"

	"fiducial/api"
	"fiducial/raster"
)

// P13.6: the number of pixels of each grey value.
func TestHistogram(t *testing.T) {
	some(1500, func(r *rand.Rand) {
		a := random(r, greatest(r))
		before := copied(a)
		got, code := raster.Histogram(a)
		if code != api.OK || len(got) != a.Max+1 || !same(a, before) {
			t.Fatalf("Histogram(%v): %d numbers, %d", a, len(got), code)
		}
		sum := 0
		for _, n := range got {
			sum += n
		}
		for _, g := range a.Pixels {
			count := 0
			for _, other := range a.Pixels {
				if g == other {
					count++
				}
			}
			if got[g] != count {
				t.Fatalf("Histogram(%v): %d times %d", a, got[g], g)
			}
		}
		if sum != len(a.Pixels) {
			t.Fatalf("Histogram(%v) counts %d pixels", a, sum)
		}
	})
	if got, code := raster.Histogram(of(3, []int{3, 1, 3})); code != api.OK || !slices.Equal(got, []int{0, 1, 0, 2}) {
		t.Errorf("Histogram = %v, %d", got, code)
	}
	if got, code := raster.Histogram(filled(64, 64, 1, 0)); code != api.OK || !slices.Equal(got, []int{4096, 0}) {
		t.Errorf("Histogram = %v, %d", got, code)
	}
}

// P13.7: grey values are replaced, and only in the result.
func TestMap(t *testing.T) {
	some(800, func(r *rand.Rand) {
		a := random(r, greatest(r))
		table := make([]int, a.Max+1)
		for g := range table {
			table[g] = r.Intn(a.Max + 1)
		}
		before := slices.Clone(table)
		result := drawn(a.Width, a.Height, a.Max, func(x, y int) int { return table[pixel(a, x, y)] })
		replace := func(l ...api.Raster) (api.Raster, api.Code) { return raster.Map(l[0], table) }
		want(t, "Map", replace, result, a)
		if !slices.Equal(table, before) {
			t.Fatal("Map has changed the table")
		}
	})
	if b, code := raster.Map(of(2, []int{0, 1, 2}), []int{2, 0, 1}); code != api.OK || !same(b, of(2, []int{2, 0, 1})) {
		t.Errorf("Map = %v, %d", b, code)
	}
}

// P13.7: the size of the table comes first; elements are asked for even if no pixel has their grey value.
func TestMapInvalid(t *testing.T) {
	a := filled(2, 2, 3, 1)
	for _, table := range [][]int{nil, {}, {0}, {0, 1, 2}, {0, 1, 2, 3, 0}, {-1, 9, 9}, {9, 9, 9, 9, 9}, make([]int, 70000)} {
		if b, code := raster.Map(a, table); code != api.ErrMismatch || !isBlank(b) {
			t.Errorf("Map with %d elements: %v, %d", len(table), b, code)
		}
	}
	for _, n := range append(far(), 4) {
		for k := range 4 {
			table := []int{0, 1, 2, 3}
			table[k] = n
			if b, code := raster.Map(a, table); code != api.ErrRange || !isBlank(b) {
				t.Errorf("Map with %v: %v, %d", table, b, code)
			}
		}
	}
}

// P13.8: the sums of all rectangles from the corner.
func TestIntegral(t *testing.T) {
	some(300, func(r *rand.Rand) {
		a := random(r, greatest(r))
		before := copied(a)
		table, code := raster.Integral(a)
		if code != api.OK || len(table) != a.Height+1 || !same(a, before) {
			t.Fatalf("Integral(%v): %d rows, %d", a, len(table), code)
		}
		for y, row := range table {
			if len(row) != a.Width+1 {
				t.Fatalf("Integral(%v): %d columns", a, len(row))
			}
			for range 4 {
				x := r.Intn(a.Width + 1)
				if sum := added(a, 0, 0, x, y); row[x] != sum {
					t.Fatalf("Integral(%v): %d at (%d, %d), want %d", a, row[x], x, y, sum)
				}
			}
		}
	})
	table, code := raster.Integral(example())
	if want := [][]int{{0, 0, 0}, {0, 1, 3}, {0, 4, 10}}; code != api.OK || !slices.EqualFunc(table, want, slices.Equal[[]int]) {
		t.Errorf("Integral of the example: %v, %d", table, code)
	}
	if n, code := raster.Sum(table, 1, 0, 1, 2); code != api.OK || n != 6 {
		t.Errorf("Sum of the example: %d, %d", n, code)
	}
	most, _ := raster.Integral(filled(64, 64, 65535, 65535))
	if n, code := raster.Sum(most, 0, 0, 64, 64); code != api.OK || n != 4096*65535 || most[64][64] != n {
		t.Errorf("Sum of the greatest raster: %d, %d", n, code)
	}
	// The rows share no memory.
	for y := range table {
		for x := range table[y] {
			table[y][x] = -5
		}
		_ = append(table[y], -5)
		if y < 2 && table[y+1][0] != 0 {
			t.Error("rows share memory")
		}
	}
}

// added is the sum of the pixels of a rectangle.
func added(a api.Raster, x, y, width, height int) int {
	sum := 0
	for j := range height {
		for i := range width {
			sum += pixel(a, x+i, y+j)
		}
	}
	return sum
}

// P13.8: all rectangles of small tables, empty ones, too, and those that do not fit.
func TestSum(t *testing.T) {
	some(12, func(r *rand.Rand) {
		a := random(r, greatest(r))
		a = drawn(1+r.Intn(4), 1+r.Intn(4), a.Max, func(x, y int) int { return r.Intn(a.Max + 1) })
		table, _ := raster.Integral(a)
		for k := range 7 * 7 * 7 * 7 {
			x, y, width, height := k%7-1, k/7%7-1, k/49%7-1, k/343-1
			n, code := raster.Sum(table, x, y, width, height)
			if x < 0 || y < 0 || width < 0 || height < 0 || x+width > a.Width || y+height > a.Height {
				if code != api.ErrRange || n != 0 {
					t.Fatalf("Sum(%v, %d, %d, %d, %d) = %d, %d", table, x, y, width, height, n, code)
				}
				continue
			}
			if code != api.OK || n != added(a, x, y, width, height) {
				t.Fatalf("Sum(%v, %d, %d, %d, %d) = %d, %d", table, x, y, width, height, n, code)
			}
		}
	})
	some(500, func(r *rand.Rand) {
		a := random(r, greatest(r))
		table, _ := raster.Integral(a)
		x, y := r.Intn(a.Width+1), r.Intn(a.Height+1)
		width, height := r.Intn(a.Width-x+1), r.Intn(a.Height-y+1)
		if n, code := raster.Sum(table, x, y, width, height); code != api.OK || n != added(a, x, y, width, height) {
			t.Fatalf("Sum of %v = %d, %d", a, n, code)
		}
	})
}

// P13.8: what is no table, before numbers that are out of range.
func TestSumInvalid(t *testing.T) {
	for _, table := range [][][]int{nil, {}, {{}}, {{}, {}}, {nil, nil}, {{0, 0}, {0}}, {{0}, {0, 0}}, {{0, 0}, {0, 1}, {0, 2, 3}}, {{0, 0}, {}}, {{}, {0, 0}}, {{0, 0}, nil, {0, 0}}} {
		for _, x := range []int{0, -1, 1, math.MaxInt} {
			if n, code := raster.Sum(table, x, 0, 1, x); code != api.ErrArgument || n != 0 {
				t.Errorf("Sum(%v) = %d, %d", table, n, code)
			}
		}
	}
	table, _ := raster.Integral(example())
	before := slices.Concat(table...)
	for _, n := range append(far(), 3) {
		for k := range 4 {
			for _, other := range []int{0, 1, 2} {
				l := [4]int{0, 0, other, other}
				l[k] = n
				if sum, code := raster.Sum(table, l[0], l[1], l[2], l[3]); code != api.ErrRange || sum != 0 {
					t.Errorf("Sum(%v) = %d, %d", l, sum, code)
				}
			}
		}
	}
	for _, l := range [][4]int{{math.MaxInt, 0, math.MaxInt, 0}, {1, 1, math.MaxInt, math.MaxInt}, {2, 2, 1, 0}, {2, 0, 0, 3}, {math.MinInt, 0, math.MinInt, 0}} {
		if sum, code := raster.Sum(table, l[0], l[1], l[2], l[3]); code != api.ErrRange || sum != 0 {
			t.Errorf("Sum(%v) = %d, %d", l, sum, code)
		}
	}
	for _, l := range [][4]int{{2, 2, 0, 0}, {2, 0, 0, 2}, {0, 2, 2, 0}, {1, 1, 0, 1}} {
		if sum, code := raster.Sum(table, l[0], l[1], l[2], l[3]); code != api.OK || sum != 0 {
			t.Errorf("Sum(%v) = %d, %d", l, sum, code)
		}
	}
	if !slices.Equal(before, slices.Concat(table...)) {
		t.Error("Sum has changed the table")
	}
	// A table of any size has sums, not only that of a raster.
	for _, c := range []struct {
		table         [][]int
		width, height int
	}{{[][]int{{7}}, 0, 0}, {[][]int{{0, 0, 0, 0}}, 3, 0}, {[][]int{{1}, {2}, {3}}, 0, 2}, {[][]int{make([]int, 300), make([]int, 300)}, 299, 1}} {
		if sum, code := raster.Sum(c.table, 0, 0, c.width, c.height); code != api.OK || sum != 0 {
			t.Errorf("Sum(%v) = %d, %d", c.table, sum, code)
		}
		if _, code := raster.Sum(c.table, 0, 0, c.width+1, c.height); code != api.ErrRange {
			t.Errorf("Sum(%v): %d", c.table, code)
		}
		if _, code := raster.Sum(c.table, 0, 0, c.width, c.height+1); code != api.ErrRange {
			t.Errorf("Sum(%v): %d", c.table, code)
		}
	}
}

// nearest is the integer nearest to g * most / old, of two the greater one: the floor of the quotient and a half.
func nearest(g, most, old int) int {
	x := new(big.Rat).Add(big.NewRat(int64(g)*int64(most), int64(old)), big.NewRat(1, 2))
	return int(new(big.Int).Div(x.Num(), x.Denom()).Int64())
}

// P13.8: grey values are rounded to the nearest ones, halves upwards.
func TestRescale(t *testing.T) {
	check := func(a api.Raster, most int) {
		result := drawn(a.Width, a.Height, most, func(x, y int) int { return nearest(pixel(a, x, y), most, a.Max) })
		rescale := func(l ...api.Raster) (api.Raster, api.Code) { return raster.Rescale(l[0], most) }
		want(t, "Rescale", rescale, result, a)
	}
	for old := 1; old <= 40; old++ {
		all := drawn(old+1, 1, old, func(x, y int) int { return x })
		for most := 1; most <= 40; most++ {
			check(all, most)
		}
		check(all, 65535)
	}
	some(300, func(r *rand.Rand) { check(random(r, greatest(r)), greatest(r)) })
	for _, c := range []struct {
		a    api.Raster
		most int
		want api.Raster
	}{
		{example(), 3, of(3, []int{0, 1}, []int{1, 1})},
		{of(6, []int{3, 2, 4}), 1, of(1, []int{1, 0, 1})},
		{of(65535, []int{0, 65535, 32767, 32768}), 1, of(1, []int{0, 1, 0, 1})},
		{of(1, []int{0, 1}), 65535, of(65535, []int{0, 65535})},
		{of(4, []int{1, 2, 3}), 2, of(2, []int{1, 1, 2})},
		{example(), 9, example()},
	} {
		rescale := func(l ...api.Raster) (api.Raster, api.Code) { return raster.Rescale(l[0], c.most) }
		want(t, "Rescale", rescale, c.want, c.a)
	}
	for _, n := range append(far(), 0) {
		if b, code := raster.Rescale(example(), n); code != api.ErrRange || !isBlank(b) {
			t.Errorf("Rescale to %d: %v, %d", n, b, code)
		}
	}
}
