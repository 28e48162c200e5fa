package pyramid_test

import (
	"math"
	"math/rand"
	"slices"
	"testing"

	"fiducial/api"
	"fiducial/pyramid"
)

// of is a raster with some rows.
func of(most int, rows ...[]int) api.Raster {
	return api.Raster{Width: len(rows[0]), Height: len(rows), Max: most, Pixels: slices.Concat(rows...)}
}

// drawn is the list of the values of a function, row by row.
func drawn(width, height int, at func(x, y int) int) []int {
	var l []int
	for i := range width * height {
		l = append(l, at(i%width, i/width))
	}
	return l
}

// pixel is the pixel (x, y).
func pixel(a api.Raster, x, y int) int { return a.Pixels[y*a.Width+x] }

// pick is an element of a list.
func pick[T any](r *rand.Rand, l ...T) T { return l[r.Intn(len(l))] }

// some calls check many times.
func some(rounds int, check func(r *rand.Rand)) {
	r := rand.New(rand.NewSource(16))
	for range rounds {
		check(r)
	}
}

// random is a raster; some have long rows of the greatest grey value, so that means are rounded everywhere.
func random(r *rand.Rand) api.Raster {
	size := func() int { return pick(r, 1, 2, 3, 1+r.Intn(12), 1+r.Intn(12), 63, 64) }
	a := api.Raster{Width: size(), Height: size(), Max: pick(r, 1, 2, 3, 255, 65534, 65535, 1+r.Intn(65535))}
	rare := 1 + r.Intn(10)
	a.Pixels = drawn(a.Width, a.Height, func(x, y int) int {
		if r.Intn(rare) == 0 {
			return r.Intn(a.Max + 1)
		}
		return pick(r, 0, a.Max, a.Max-1)
	})
	return a
}

// all calls check for all rasters of a size with a greatest grey value.
func all(width, height, most int, check func(a api.Raster)) {
	count := 1
	for range width * height {
		count *= most + 1
	}
	for n := range count {
		check(api.Raster{Width: width, Height: height, Max: most, Pixels: digits(n, most+1, width*height)})
	}
}

// digits are so many digits of n in a base.
func digits(n, base, count int) []int {
	l := make([]int, count)
	for i := range l {
		l[i] = n % base
		n /= base
	}
	return l
}

// same reports whether two rasters have the same fields.
func same(a, b api.Raster) bool {
	return a.Width == b.Width && a.Height == b.Height && a.Max == b.Max && slices.Equal(a.Pixels, b.Pixels)
}

// lists are the four lists of bands.
func lists(b api.Bands) [][]int { return [][]int{b.Low, b.Right, b.Down, b.Corner} }

// sameBands reports whether two bands have the same fields.
func sameBands(a, b api.Bands) bool {
	return a.Width == b.Width && a.Height == b.Height && a.Max == b.Max && slices.EqualFunc(lists(a), lists(b), slices.Equal[[]int])
}

// copied is a copy of b in new memory.
func copied(b api.Bands) api.Bands {
	b.Low, b.Right, b.Down, b.Corner = slices.Clone(b.Low), slices.Clone(b.Right), slices.Clone(b.Down), slices.Clone(b.Corner)
	return b
}

// copiedLevels are levels in new memory.
func copiedLevels(levels []api.Bands) []api.Bands {
	var l []api.Bands
	for _, b := range levels {
		l = append(l, copied(b))
	}
	return l
}

// overwrite changes all that some slices show of their memory, and what an append would write behind them.
func overwrite(l ...[]int) {
	for _, s := range l {
		for i := range s {
			s[i] = -77777
		}
		_ = append(s, -77777)
	}
}

// half is the mean of two numbers, rounded down.
func half(a, b int) int { return int(math.Floor(float64(a+b) / 2)) }

// sizes are the numbers of low and high parts of w elements.
func sizes(w int) (low, high int) {
	return int(math.Ceil(float64(w) / 2)), int(math.Floor(float64(w) / 2))
}

// splitOf are the bands of a raster, by their definition: one element after the other.
func splitOf(a api.Raster) api.Bands {
	p, q := sizes(a.Width)
	s, t := sizes(a.Height)
	rowLow := func(x, y int) int {
		if 2*x+1 == a.Width {
			return pixel(a, 2*x, y)
		}
		return half(pixel(a, 2*x, y), pixel(a, 2*x+1, y))
	}
	rowHigh := func(x, y int) int { return pixel(a, 2*x, y) - pixel(a, 2*x+1, y) }
	low := func(row func(x, y int) int) func(x, y int) int {
		return func(x, y int) int {
			if 2*y+1 == a.Height {
				return row(x, 2*y)
			}
			return half(row(x, 2*y), row(x, 2*y+1))
		}
	}
	high := func(row func(x, y int) int) func(x, y int) int {
		return func(x, y int) int { return row(x, 2*y) - row(x, 2*y+1) }
	}
	b := api.Bands{Width: a.Width, Height: a.Height, Max: a.Max}
	b.Low, b.Right = drawn(p, s, low(rowLow)), drawn(q, s, low(rowHigh))
	b.Down, b.Corner = drawn(p, t, high(rowLow)), drawn(q, t, high(rowHigh))
	return b
}

// joinOf is the raster of bands, by the definition: one pixel after the other.
func joinOf(b api.Bands) (api.Raster, api.Code) {
	p, q := sizes(b.Width)
	// side is the number at the place i of a sequence with low and high parts.
	side := func(i, n int, low, high func(i int) int) int {
		if i == n-1 && n%2 == 1 {
			return low(i / 2)
		}
		l, d := low(i/2), high(i/2)
		first := l + int(math.Floor(float64(d+1)/2))
		if i%2 == 0 {
			return first
		}
		return first - d
	}
	column := func(low, high []int, width int) func(x, y int) int {
		return func(x, y int) int {
			return side(y, b.Height, func(i int) int { return low[i*width+x] }, func(i int) int { return high[i*width+x] })
		}
	}
	lows, highs := column(b.Low, b.Down, p), column(b.Right, b.Corner, q)
	a := api.Raster{Width: b.Width, Height: b.Height, Max: b.Max}
	a.Pixels = drawn(a.Width, a.Height, func(x, y int) int {
		return side(x, b.Width, func(i int) int { return lows(i, y) }, func(i int) int { return highs(i, y) })
	})
	if slices.Min(a.Pixels) < 0 || slices.Max(a.Pixels) > a.Max {
		return api.Raster{}, api.ErrOutside
	}
	return a, api.OK
}

// restoreOf is the raster of levels that are all valid, by the definition.
func restoreOf(levels []api.Bands) (api.Raster, api.Code) {
	var a api.Raster
	for i := len(levels) - 1; i >= 0; i-- {
		b := levels[i]
		if i < len(levels)-1 {
			width, _ := sizes(b.Width)
			height, _ := sizes(b.Height)
			if a.Width != width || a.Height != height || a.Max != b.Max {
				return api.Raster{}, api.ErrMismatch
			}
			b.Low = a.Pixels
		}
		var code api.Code
		if a, code = joinOf(b); code != api.OK {
			return api.Raster{}, code
		}
	}
	return a, api.OK
}

// wantJoin fails the test if Join does not do with bands what the definition says, or changes them.
func wantJoin(t *testing.T, b api.Bands) {
	t.Helper()
	before := copied(b)
	want, code := joinOf(b)
	got, e := pyramid.Join(b)
	if e != code || !same(got, want) || !sameBands(b, before) {
		t.Fatalf("Join(%v) = %v, %d, want %v, %d", before, got, e, want, code)
	}
}

// wantRestore fails the test if Restore does not do with levels what the definition says, or changes them.
func wantRestore(t *testing.T, levels []api.Bands) api.Code {
	t.Helper()
	before := copiedLevels(levels)
	want, code := restoreOf(levels)
	got, e := pyramid.Restore(levels)
	if e != code || !same(got, want) || !slices.EqualFunc(levels, before, sameBands) {
		t.Fatalf("Restore(%v) = %v, %d, want %v, %d", before, got, e, want, code)
	}
	return code
}

// far are numbers that are no size, grey value or element of a band.
func far() []int {
	return []int{math.MinInt, math.MinInt + 1, math.MaxInt, math.MaxInt - 1, 1<<20 + 1, -1<<20 - 1, 1 << 32, -1 << 32, 1 << 62, -1 << 62}
}

// invalidRasters are values that are no rasters.
func invalidRasters() []api.Raster {
	l := []api.Raster{{}, {Pixels: []int{0}}, {Width: 1, Height: 1, Max: 1}, {Width: 1, Height: 1, Pixels: []int{0}}, {Width: 2, Height: 0, Max: 1}, {Width: 1 << 32, Height: 1 << 32, Max: 1}}
	for _, n := range append(far(), -1, 65) {
		l = append(l, api.Raster{Width: n, Height: 1, Max: 1, Pixels: make([]int, 65)}, api.Raster{Width: 1, Height: n, Max: 1, Pixels: make([]int, 65)})
		l = append(l, of(64, []int{n, 0}, []int{0, 0}), of(64, []int{0, 0}, []int{0, n}))
	}
	for _, n := range append(far(), 0, -1, 65536) {
		l = append(l, of(n, []int{0, 0}))
	}
	return append(l, of(1, []int{1, 1, 2}), api.Raster{Width: 2, Height: 2, Max: 1, Pixels: make([]int, 3)}, api.Raster{Width: 2, Height: 2, Max: 1, Pixels: make([]int, 5)})
}

// invalidBands are values that are no valid bands.
func invalidBands() []api.Bands {
	good := splitOf(of(9, []int{5, 2, 9}, []int{4, 4, 0}))
	l := []api.Bands{{}, {Low: []int{0}}, {Width: 1, Height: 1, Max: 1}, {Width: 1, Height: 1, Low: []int{0}}}
	add := func(change func(b *api.Bands)) {
		b := copied(good)
		change(&b)
		l = append(l, b)
	}
	for _, n := range append(far(), 0, -1, 1, 2, 4, 65) {
		add(func(b *api.Bands) { b.Width = n })
		if n != 2 {
			add(func(b *api.Bands) { b.Height = n })
		}
	}
	for _, n := range append(far(), 0, -1, 65536) {
		add(func(b *api.Bands) { b.Max = n })
	}
	for k := range 4 {
		band := func(b *api.Bands) *[]int { return []*[]int{&b.Low, &b.Right, &b.Down, &b.Corner}[k] }
		add(func(b *api.Bands) { *band(b) = nil })
		add(func(b *api.Bands) { *band(b) = append(*band(b), 0) })
		add(func(b *api.Bands) { *band(b) = (*band(b))[1:] })
		for _, n := range far() {
			add(func(b *api.Bands) { (*band(b))[0] = n })
			add(func(b *api.Bands) { (*band(b))[len(*band(b))-1] = n })
		}
	}
	// What has the size of one raster more, or of one less.
	for _, size := range [][2]int{{65, 1}, {1, 65}, {65, 64}, {64, 65}, {0, 1}, {1, 0}, {0, 0}} {
		p, q := sizes(size[0])
		s, t := sizes(size[1])
		l = append(l, api.Bands{Width: size[0], Height: size[1], Max: 1, Low: make([]int, p*s), Right: make([]int, q*s), Down: make([]int, p*t), Corner: make([]int, q*t)})
	}
	return l
}
