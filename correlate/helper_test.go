package correlate_test

import (
	"math"
	"math/big"
	"math/rand"
	"slices"
	"strings"

	"fiducial/api"
	"fiducial/fraction"
)

// pick is an element of a list.
func pick[T any](r *rand.Rand, l ...T) T { return l[r.Intn(len(l))] }

// some calls check many times.
func some(rounds int, check func(r *rand.Rand)) {
	r := rand.New(rand.NewSource(23))
	for range rounds {
		check(r)
	}
}

// of is a raster with some rows.
func of(most int, rows ...[]int) api.Raster {
	return api.Raster{Width: len(rows[0]), Height: len(rows), Max: most, Pixels: slices.Concat(rows...)}
}

// drawn is the raster whose pixels a function says.
func drawn(width, height, most int, grey func(x, y int) int) api.Raster {
	a := api.Raster{Width: width, Height: height, Max: most}
	for i := range width * height {
		a.Pixels = append(a.Pixels, grey(i%width, i/width))
	}
	return a
}

// pixel is the pixel (x, y).
func pixel(a api.Raster, x, y int) int { return a.Pixels[y*a.Width+x] }

// copied is a copy of a in new memory.
func copied(a api.Raster) api.Raster {
	a.Pixels = slices.Clone(a.Pixels)
	return a
}

// part is a part of a raster.
func part(a api.Raster, x, y, width, height int) api.Raster {
	return drawn(width, height, a.Max, func(i, j int) int { return pixel(a, x+i, y+j) })
}

// far are numbers that are beyond all limits.
func far() []int {
	return []int{math.MinInt, math.MinInt + 1, math.MaxInt, math.MaxInt - 1, math.MaxInt - 64, math.MinInt + 64, 1 << 32, -1 << 32, 1 << 62, -1 << 62, 1000, -1000}
}

// invalidRasters are values that are no rasters.
func invalidRasters() []api.Raster {
	l := []api.Raster{{}, {Pixels: []int{0}}, {Width: 1, Height: 1, Max: 1}, {Width: 2, Height: 0, Max: 1}}
	for _, n := range append(far(), -1, 65) {
		l = append(l, api.Raster{Width: n, Height: 1, Max: 1, Pixels: make([]int, 65)}, api.Raster{Width: 1, Height: n, Max: 1, Pixels: make([]int, 65)}, of(64, []int{0, n}))
	}
	return append(l, of(0, []int{0}), of(65536, []int{0}), of(1, []int{1, 2}), api.Raster{Width: 2, Height: 2, Max: 1, Pixels: make([]int, 3)})
}

// notCanonical are fractions that are not canonical.
func notCanonical() []api.Rat {
	n := func(groups ...uint32) api.Int { return api.Int{Groups: groups} }
	return []api.Rat{{}, {Num: n(1)}, {Den: n(0)}, {Num: n(2), Den: n(4)}, {Num: n(1), Den: api.Int{Negative: true, Groups: []uint32{2}}}, {Num: n(0), Den: n(1)}, {Num: n(1, 0), Den: n(1)}, {Num: n(1e9), Den: n(1)}, {Den: n(2)}}
}

// isZero reports whether all fractions are the zero value.
func isZero(l ...api.Rat) bool {
	for _, x := range l {
		if x.Num.Negative || x.Den.Negative || len(x.Num.Groups)+len(x.Den.Groups) > 0 {
			return false
		}
	}
	return true
}

// texts are the texts of fractions; one that is not canonical is "none".
func texts(l ...api.Rat) string {
	var s strings.Builder
	for _, x := range l {
		if fraction.Valid(x) {
			s.WriteString(fraction.Text(x) + " ")
		} else {
			s.WriteString("none ")
		}
	}
	return s.String()
}

// textsOf are the texts of numbers.
func textsOf(l ...*big.Rat) string {
	var s strings.Builder
	for _, x := range l {
		s.WriteString(x.RatString() + " ")
	}
	return s.String()
}

// fractionOf is n as a fraction.
func fractionOf(n *big.Rat) api.Rat {
	x, _ := fraction.Parse(n.RatString())
	return x
}

// size is a width or height.
func size(r *rand.Rand) int { return pick(r, 1, 2, 3, 1+r.Intn(6), 1+r.Intn(12)) }

// random is a raster of some size; many have few grey values, are flat or repeat themselves, so that there are equal scores.
func random(r *rand.Rand, width, height int) api.Raster {
	most := pick(r, 1, 2, 3, 255, 65535, 65534, 1+r.Intn(65535))
	few := []int{0, most, r.Intn(most + 1)}
	table := make([]int, 64*64)
	isFew := r.Intn(2) == 0
	for i := range table {
		table[i] = r.Intn(most + 1)
		if isFew {
			table[i] = pick(r, few...)
		}
	}
	at := func(x, y int) int { return table[64*y+x] }
	period := 1 + r.Intn(4)
	return drawn(width, height, most, pick(r,
		at, at, at,
		func(x, y int) int { return at(x%period, y%period) },
		func(x, y int) int { return at(x, 0) },
		func(x, y int) int { return at(0, y) },
		func(x, y int) int { return at(x/period, y/period) },
		func(x, y int) int { return at(max(x-3, 0), max(y-2, 0)) },
		func(x, y int) int { return at(min(x, width-1-x), min(y, height-1-y)) },
	))
}

// scoreOf is the score of a patch and its window at (x, y): the signed square of the covariance of both, divided by the product of their variances.
func scoreOf(patch, image api.Raster, x, y int) *big.Rat {
	n := func(k int) *big.Rat { return new(big.Rat).SetInt64(int64(k)) }
	window := part(image, x, y, patch.Width, patch.Height)
	mean := func(a api.Raster) *big.Rat {
		sum := 0
		for _, g := range a.Pixels {
			sum += g
		}
		return new(big.Rat).Quo(n(sum), n(len(a.Pixels)))
	}
	meanA, meanB := mean(patch), mean(window)
	covariance, varianceA, varianceB := n(0), n(0), n(0)
	for i, g := range patch.Pixels {
		a, b := new(big.Rat).Sub(n(g), meanA), new(big.Rat).Sub(n(window.Pixels[i]), meanB)
		covariance.Add(covariance, new(big.Rat).Mul(a, b))
		varianceA.Add(varianceA, new(big.Rat).Mul(a, a))
		varianceB.Add(varianceB, new(big.Rat).Mul(b, b))
	}
	if varianceA.Sign() == 0 || varianceB.Sign() == 0 {
		return n(0)
	}
	score := new(big.Rat).Mul(covariance, new(big.Rat).Abs(covariance))
	return score.Quo(score, varianceA).Quo(score, varianceB)
}

// scoresOf are the scores of all positions, row by row.
func scoresOf(patch, image api.Raster) []*big.Rat {
	var l []*big.Rat
	for y := 0; y+patch.Height <= image.Height; y++ {
		for x := 0; x+patch.Width <= image.Width; x++ {
			l = append(l, scoreOf(patch, image, x, y))
		}
	}
	return l
}

// randomPair is a patch and an image; many patches are like a part of the image, with some contrast and brightness.
func randomPair(r *rand.Rand) (patch, image api.Raster) {
	image = random(r, 2+size(r), 2+size(r))
	width, height := min(size(r), image.Width+r.Intn(2)), min(size(r), image.Height+r.Intn(2))
	if r.Intn(2) == 0 || width > image.Width || height > image.Height {
		return random(r, width, height), image
	}
	patch = part(image, r.Intn(image.Width-width+1), r.Intn(image.Height-height+1), width, height)
	switch r.Intn(3) {
	case 0:
		patch = drawn(width, height, patch.Max, func(x, y int) int { return patch.Max - pixel(patch, x, y) })
	case 1:
		patch.Pixels[r.Intn(len(patch.Pixels))] = r.Intn(patch.Max + 1)
	}
	return patch, image
}
