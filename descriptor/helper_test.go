package descriptor_test

import (
	"math"
	"math/big"
	"math/rand"
	"slices"

	"fiducial/api"
	"fiducial/descriptor"
)

// pick is an element of a list.
func pick[T any](r *rand.Rand, l ...T) T { return l[r.Intn(len(l))] }

// some calls check many times.
func some(rounds int, check func(r *rand.Rand)) {
	r := rand.New(rand.NewSource(21))
	for range rounds {
		check(r)
	}
}

// of is a raster with some rows.
func of(most int, rows ...[]int) api.Raster {
	return api.Raster{Width: len(rows[0]), Height: len(rows), Max: most, Pixels: slices.Concat(rows...)}
}

// drawn is the raster whose pixels a function says.
func drawn(width, height, most int, grey func(x, y int) int) api.Raster {
	a := api.Raster{Width: width, Height: height, Max: most}
	for i := range width * height {
		a.Pixels = append(a.Pixels, grey(i%width, i/width))
	}
	return a
}

// greys is a raster with each grey value replaced by what a function says.
func greys(a api.Raster, most int, other func(g int) int) api.Raster {
	return drawn(a.Width, a.Height, most, func(x, y int) int { return other(a.Pixels[y*a.Width+x]) })
}

// copied is a copy of a in new memory.
func copied(a api.Raster) api.Raster {
	a.Pixels = slices.Clone(a.Pixels)
	return a
}

// far are numbers that are beyond all limits.
func far() []int {
	return []int{math.MinInt, math.MinInt + 1, math.MaxInt, math.MaxInt - 1, math.MaxInt - 7, 1 << 32, -1 << 32, 1 << 62, -1 << 62, 1000, -1000}
}

// invalidRasters are values that are no rasters.
func invalidRasters() []api.Raster {
	l := []api.Raster{{}, {Pixels: []int{0}}, {Width: 1, Height: 1, Max: 1}, {Width: 2, Height: 0, Max: 1}}
	for _, n := range append(far(), -1, 65) {
		l = append(l, api.Raster{Width: n, Height: 1, Max: 1, Pixels: make([]int, 65)}, api.Raster{Width: 1, Height: n, Max: 1, Pixels: make([]int, 65)}, of(64, []int{0, n}))
	}
	return append(l, of(0, []int{0}), of(65536, []int{0}), of(1, []int{1, 2}), api.Raster{Width: 2, Height: 2, Max: 1, Pixels: make([]int, 3)})
}

// random is a raster; many have few grey values, or repeat themselves, so that there are equal means.
func random(r *rand.Rand) api.Raster {
	size := func() int { return pick(r, 1+r.Intn(6), 5+r.Intn(10), 5+r.Intn(20), 5+r.Intn(40), 33+r.Intn(8), 64) }
	most := pick(r, 1, 2, 255, 65535, 65534, 1+r.Intn(65535))
	few := []int{0, most, r.Intn(most + 1)}
	period := pick(r, 1, 2, 3, 1000, 1000, 1000)
	isFew := r.Intn(2) == 0
	table := map[[2]int]int{}
	return drawn(size(), size(), most, func(x, y int) int {
		at := [2]int{x % period, y % period}
		if _, ok := table[at]; !ok {
			table[at] = r.Intn(most + 1)
			if isFew {
				table[at] = pick(r, few...)
			}
		}
		return table[at]
	})
}

// sample are the pixels of a raster, or some of them if there are many.
func sample(r *rand.Rand, a api.Raster) []api.Pix {
	var l []api.Pix
	for i := 0; i < len(a.Pixels); i += 1 + r.Intn(1+len(a.Pixels)/100) {
		l = append(l, api.Pix{X: i % a.Width, Y: i / a.Width})
	}
	return l
}

// randomBox is a box with a greatest distance from the feature and a greatest size.
func randomBox(r *rand.Rand, reach, size int) [4]int {
	w, h := 1+r.Intn(size), 1+r.Intn(size)
	place := func(count int) int {
		return pick(r, r.Intn(2*reach+2-count)-reach, r.Intn(2*reach+2-count)-reach, -reach, reach+1-count)
	}
	return [4]int{place(w), place(h), w, h}
}

// randomPattern is a pattern; most have small boxes near the feature, so that many features have a word.
func randomPattern(r *rand.Rand) []descriptor.Test {
	reach, size := pick(r, 1, 2, 4, 16), pick(r, 1, 2, 3, 8)
	p := make([]descriptor.Test, pick(r, 1, 2, 1+r.Intn(64), 63, 64))
	for i := range p {
		p[i] = descriptor.Test{A: randomBox(r, reach, min(size, 2*reach+1)), B: randomBox(r, reach, min(size, 2*reach+1))}
		if r.Intn(8) == 0 {
			p[i].B = p[i].A
		}
	}
	return p
}

// meanOf is the mean of a box of the feature at (x, y), if a has all its pixels.
func meanOf(a api.Raster, b [4]int, x, y int) (*big.Rat, bool) {
	sum, count := int64(0), int64(0)
	for row := y + b[1]; row <= y+b[1]+b[3]-1; row++ {
		for column := x + b[0]; column <= x+b[0]+b[2]-1; column++ {
			if column < 0 || row < 0 || column >= a.Width || row >= a.Height {
				return nil, false
			}
			sum += int64(a.Pixels[row*a.Width+column])
			count++
		}
	}
	return big.NewRat(sum, count), true
}

// wordOf is the word of a feature by its definition, and how many means are equal.
func wordOf(a api.Raster, p []descriptor.Test, x, y int) (word uint64, equal int, code api.Code) {
	for i, t := range p {
		m, ok := meanOf(a, t.A, x, y)
		n, also := meanOf(a, t.B, x, y)
		if !ok || !also {
			return 0, 0, api.ErrOutside
		}
		switch m.Cmp(n) {
		case -1:
			word += uint64(math.Pow(2, float64(i)))
		case 0:
			equal++
		}
	}
	return word, equal, api.OK
}

// quarterOf is the number of the brightest side by its definition.
func quarterOf(a api.Raster, x, y, n int) (int, api.Code) {
	var sums [4]int
	for dy := -n; dy <= n; dy++ {
		for dx := -n; dx <= n; dx++ {
			if x+dx < 0 || y+dy < 0 || x+dx >= a.Width || y+dy >= a.Height {
				return 0, api.ErrOutside
			}
			g := a.Pixels[(y+dy)*a.Width+x+dx]
			for side, isIn := range []bool{dx > 0, dy < 0, dx < 0, dy > 0} {
				if isIn {
					sums[side] += g
				}
			}
		}
	}
	best, times := 0, 0
	for side, s := range sums {
		if s > sums[best] {
			best = side
		}
	}
	for _, s := range sums {
		if s == sums[best] {
			times++
		}
	}
	if times > 1 {
		return 0, api.ErrDegenerate
	}
	return best, api.OK
}

// turnedOf is the turned pattern: each pixel (x, y) of a box goes to (y, -x).
func turnedOf(p []descriptor.Test) []descriptor.Test {
	var l []descriptor.Test
	box := func(b [4]int) [4]int {
		left, right, top, bottom := b[0], b[0]+b[2]-1, b[1], b[1]+b[3]-1
		return [4]int{top, -right, bottom - top + 1, right - left + 1}
	}
	for _, t := range p {
		l = append(l, descriptor.Test{A: box(t.A), B: box(t.B)})
	}
	return l
}

// one is a pattern with one test of two boxes.
func one(a, b [4]int) []descriptor.Test { return []descriptor.Test{{A: a, B: b}} }

// beside is the pattern of the chapter's example.
func beside() []descriptor.Test { return one([4]int{0, 0, 1, 1}, [4]int{1, 0, 1, 1}) }

// invalidPatterns are lists of tests that are no patterns.
func invalidPatterns() [][]descriptor.Test {
	good := [4]int{0, 0, 1, 1}
	l := [][]descriptor.Test{nil, {}, make([]descriptor.Test, 1), slices.Repeat(beside(), 65), slices.Repeat(beside(), 1000)}
	bad := [][4]int{{}, {0, 0, 1, 0}, {0, 0, 0, 1}, {0, 0, 9, 1}, {0, 0, 1, 9}, {0, 0, -1, 1}, {0, 0, 1, -1}, {-17, 0, 1, 1}, {0, -17, 1, 1}, {17, 0, 1, 1}, {0, 17, 1, 1}, {16, 0, 2, 1}, {0, 16, 1, 2}, {10, 0, 8, 1}, {0, 10, 1, 8}, {-17, 0, 8, 1}, {0, -17, 1, 8}}
	for _, n := range far() {
		for i := range 4 {
			b := good
			b[i] = n
			bad = append(bad, b)
		}
		bad = append(bad, [4]int{n, 0, -n, 1}, [4]int{n, 0, 16 - n, 1}, [4]int{n, 0, 17 - n, 1}, [4]int{0, n, 1, -n}, [4]int{0, n, 1, 17 - n})
	}
	for _, b := range bad {
		l = append(l, one(b, good), one(good, b), append(slices.Repeat(beside(), 63), descriptor.Test{A: good, B: b}), append(one(b, good), beside()...))
	}
	return l
}
