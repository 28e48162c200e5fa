package corner_test

import (
	"cmp"
	"math"
	"math/big"
	"math/rand"
	"slices"

	"fiducial/api"
)

// pick is an element of a list.
func pick[T any](r *rand.Rand, l ...T) T { return l[r.Intn(len(l))] }

// some calls check many times.
func some(rounds int, check func(r *rand.Rand)) {
	r := rand.New(rand.NewSource(20))
	for range rounds {
		check(r)
	}
}

// of is a raster with some rows.
func of(most int, rows ...[]int) api.Raster {
	return api.Raster{Width: len(rows[0]), Height: len(rows), Max: most, Pixels: slices.Concat(rows...)}
}

// drawn is the raster whose pixels a function says.
func drawn(width, height, most int, grey func(x, y int) int) api.Raster {
	a := api.Raster{Width: width, Height: height, Max: most}
	for i := range width * height {
		a.Pixels = append(a.Pixels, grey(i%width, i/width))
	}
	return a
}

// pixel is the pixel (x, y).
func pixel(a api.Raster, x, y int) int { return a.Pixels[y*a.Width+x] }

// far are numbers that are beyond all limits.
func far() []int {
	return []int{math.MinInt, math.MinInt + 1, math.MaxInt, math.MaxInt - 1, 1<<20 + 1, -1<<20 - 1, 1 << 32, -1 << 32, 1 << 62, -1 << 62}
}

// invalidRasters are values that are no rasters.
func invalidRasters() []api.Raster {
	l := []api.Raster{{}, {Pixels: []int{0}}, {Width: 1, Height: 1, Max: 1}, {Width: 2, Height: 0, Max: 1}}
	for _, n := range append(far(), -1, 65) {
		l = append(l, api.Raster{Width: n, Height: 1, Max: 1, Pixels: make([]int, 65)}, api.Raster{Width: 1, Height: n, Max: 1, Pixels: make([]int, 65)}, of(64, []int{0, n}))
	}
	return append(l, of(0, []int{0}), of(65536, []int{0}), of(1, []int{1, 2}), of(5000, []int{1, 5001}), api.Raster{Width: 2, Height: 2, Max: 1, Pixels: make([]int, 3)})
}

// size is a width or height; in most there are some scores.
func size(r *rand.Rand) int { return pick(r, 1+r.Intn(6), 5+r.Intn(4), 5+r.Intn(8), 5+r.Intn(20), 64) }

// random is a raster; many have few grey values, are symmetric or repeat themselves, so that there are equal scores.
func random(r *rand.Rand) api.Raster {
	width, height, most := size(r), size(r), pick(r, 1, 2, 3, 255, 1022, 1023, 1+r.Intn(1023))
	greys := []int{0, most}
	if r.Intn(2) == 0 {
		greys = append(greys, r.Intn(most+1), r.Intn(most+1), r.Intn(most+1))
	}
	table := make([]int, 64*64)
	for i := range table {
		table[i] = pick(r, greys...)
	}
	at := func(x, y int) int { return table[64*y+x] }
	fold := func(x, size int) int { return min(x, size-1-x) }
	period := 2 + r.Intn(6)
	return drawn(width, height, most, pick(r,
		at,
		func(x, y int) int { return at(fold(x, width), y) },
		func(x, y int) int { return at(x, fold(y, height)) },
		func(x, y int) int { return at(min(x, y), max(x, y)) },
		func(x, y int) int {
			i := fold(y*width+x, width*height)
			return at(i%width, i/width)
		},
		func(x, y int) int { return at(x%period, y%period) },
		func(x, y int) int { return at((x+2*y)%period, 0) },
		func(x, y int) int { return at(x/period, y/period) },
	))
}

// scoreOf is the score of a pixel. By Lagrange's identity A C - B^2 is the sum of the squares of all two gradients' determinants.
func scoreOf(a api.Raster, x, y int) int {
	if x < 2 || y < 2 || x >= a.Width-2 || y >= a.Height-2 {
		return 0
	}
	var l [][2]int
	for j := y - 1; j <= y+1; j++ {
		for i := x - 1; i <= x+1; i++ {
			l = append(l, [2]int{pixel(a, i+1, j) - pixel(a, i-1, j), pixel(a, i, j+1) - pixel(a, i, j-1)})
		}
	}
	squares, trace := 0, 0
	for i, p := range l {
		trace += p[0]*p[0] + p[1]*p[1]
		for _, q := range l[:i] {
			d := p[0]*q[1] - p[1]*q[0]
			squares += d * d
		}
	}
	return 25*squares - trace*trace
}

// offsetOf is the offset of three numbers.
func offsetOf(b, a, c int) int {
	n := func(x int) *big.Rat { return new(big.Rat).SetInt64(int64(x)) }
	d := new(big.Rat).Sub(new(big.Rat).Add(n(b), n(c)), new(big.Rat).Add(n(a), n(a)))
	if d.Sign() >= 0 {
		return 0
	}
	z := new(big.Rat).Sub(n(b), n(c))
	z.Mul(z, n(32)).Quo(z, d).Add(z, big.NewRat(1, 2))
	floor := new(big.Int).Div(z.Num(), z.Denom())
	switch {
	case floor.Cmp(big.NewInt(32)) > 0:
		return 32
	case floor.Cmp(big.NewInt(-32)) < 0:
		return -32
	}
	return int(floor.Int64())
}

// peak is a pixel with its corner.
type peak struct {
	x, y int
	at   api.Corner
}

// peaksOf are the peaks above a threshold, in the order of Find. The counts are those of later neighbours with an equal score, by their places.
func peaksOf(a api.Raster, threshold int, equal map[[2]int]int) []peak {
	var l []peak
	for i := range a.Pixels {
		x, y := i%a.Width, i/a.Width
		s := scoreOf(a, x, y)
		if s <= threshold || !isPeak(a, x, y, s) {
			continue
		}
		for _, d := range [][2]int{{1, 0}, {-1, 1}, {0, 1}, {1, 1}} {
			if scoreOf(a, x+d[0], y+d[1]) == s {
				equal[d]++
			}
		}
		l = append(l, peak{x, y, api.Corner{
			X:     64*x + 32 + offsetOf(scoreOf(a, x-1, y), s, scoreOf(a, x+1, y)),
			Y:     64*y + 32 + offsetOf(scoreOf(a, x, y-1), s, scoreOf(a, x, y+1)),
			Score: s,
		}})
	}
	slices.SortFunc(l, func(p, q peak) int {
		return cmp.Or(cmp.Compare(q.at.Score, p.at.Score), cmp.Compare(p.y, q.y), cmp.Compare(p.x, q.x))
	})
	return l
}

// isPeak reports whether the score s of (x, y) is greater than those of its earlier neighbours, and at least those of the later ones.
func isPeak(a api.Raster, x, y, s int) bool {
	for j := y - 1; j <= y+1; j++ {
		for i := x - 1; i <= x+1; i++ {
			isEarlier := j < y || j == y && i < x
			if n := scoreOf(a, i, j); isEarlier && n >= s || n > s {
				return false
			}
		}
	}
	return true
}

// cornersOf are the corners of some peaks.
func cornersOf(l []peak) []api.Corner {
	var corners []api.Corner
	for _, p := range l {
		corners = append(corners, p.at)
	}
	return corners
}
