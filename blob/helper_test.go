package blob_test

import (
	"math"
	"math/big"
	"math/rand"
	"slices"
	"strings"

	"fiducial/api"
	"fiducial/fraction"
)

// maxThreshold is the greatest threshold.
const maxThreshold = 65536

// pick is an element of a list.
func pick[T any](r *rand.Rand, l ...T) T { return l[r.Intn(len(l))] }

// some calls check many times.
func some(rounds int, check func(r *rand.Rand)) {
	r := rand.New(rand.NewSource(24))
	for range rounds {
		check(r)
	}
}

// of is a raster with some rows.
func of(most int, rows ...[]int) api.Raster {
	return api.Raster{Width: len(rows[0]), Height: len(rows), Max: most, Pixels: slices.Concat(rows...)}
}

// drawn is the raster whose pixels a function says.
func drawn(width, height, most int, grey func(x, y int) int) api.Raster {
	a := api.Raster{Width: width, Height: height, Max: most}
	for i := range width * height {
		a.Pixels = append(a.Pixels, grey(i%width, i/width))
	}
	return a
}

// sketched is the raster with the rows of a text between slashes: 1 where there is a sign other than a point.
func sketched(s string) api.Raster {
	rows := strings.Split(s, "/")
	return drawn(len(rows[0]), len(rows), 1, func(x, y int) int {
		if rows[y][x] == '.' {
			return 0
		}
		return 1
	})
}

// pixel is the pixel (x, y).
func pixel(a api.Raster, x, y int) int { return a.Pixels[y*a.Width+x] }

// exchanged is a with rows and columns exchanged.
func exchanged(a api.Raster) api.Raster {
	return drawn(a.Height, a.Width, a.Max, func(x, y int) int { return pixel(a, y, x) })
}

// far are numbers that are beyond all limits.
func far() []int {
	return []int{math.MinInt, math.MinInt + 1, math.MaxInt, math.MaxInt - 1, 1 << 32, -1 << 32, 1 << 62, -1 << 62, 1 << 40, -1 << 40}
}

// invalidRasters are values that are no rasters.
func invalidRasters() []api.Raster {
	l := []api.Raster{{}, {Pixels: []int{0}}, {Width: 1, Height: 1, Max: 1}, {Width: 2, Height: 0, Max: 1}}
	for _, n := range append(far(), -1, 65) {
		l = append(l, api.Raster{Width: n, Height: 1, Max: 1, Pixels: make([]int, 65)}, api.Raster{Width: 1, Height: n, Max: 1, Pixels: make([]int, 65)}, of(64, []int{0, n}))
	}
	return append(l, of(0, []int{0}), of(65536, []int{0}), of(1, []int{1, 2}), api.Raster{Width: 2, Height: 2, Max: 1, Pixels: make([]int, 3)})
}

// text has the texts of some fractions; what is not canonical is marked.
func text(l ...api.Rat) string {
	var s []string
	for _, x := range l {
		if !fraction.Valid(x) {
			s = append(s, "?")
			continue
		}
		s = append(s, fraction.Text(x))
	}
	return strings.Join(s, " ")
}

// bigText has the texts of some fractions.
func bigText(l ...*big.Rat) string {
	var s []string
	for _, x := range l {
		s = append(s, x.RatString())
	}
	return strings.Join(s, " ")
}

// isZero reports whether all fractions are the zero value.
func isZero(l ...api.Rat) bool {
	return !slices.ContainsFunc(l, func(x api.Rat) bool {
		return x.Num.Negative || x.Den.Negative || len(x.Num.Groups) > 0 || len(x.Den.Groups) > 0
	})
}

// the arithmetic of the references.
func rat(n int) *big.Rat         { return new(big.Rat).SetInt64(int64(n)) }
func add(x, y *big.Rat) *big.Rat { return new(big.Rat).Add(x, y) }
func sub(x, y *big.Rat) *big.Rat { return new(big.Rat).Sub(x, y) }
func mul(x, y *big.Rat) *big.Rat { return new(big.Rat).Mul(x, y) }
func quo(x, y *big.Rat) *big.Rat { return new(big.Rat).Quo(x, y) }

// classesOf numbers the classes of the pixels of a kind by the order of their first pixels: the least pixel that can be reached is passed on until nothing changes. Two pixels are joined if their squared distance is at most reach.
func classesOf(a api.Raster, reach int, belongs func(grey int) bool) ([]int, int) {
	least := make([]int, len(a.Pixels))
	for i, g := range a.Pixels {
		least[i] = -1
		if belongs(g) {
			least[i] = i
		}
	}
	for isChanged := true; isChanged; {
		isChanged = false
		pass := func(i int) {
			x, y := i%a.Width, i/a.Width
			for v := max(y-1, 0); v <= min(y+1, a.Height-1); v++ {
				for u := max(x-1, 0); u <= min(x+1, a.Width-1); u++ {
					j := v*a.Width + u
					if (u-x)*(u-x)+(v-y)*(v-y) <= reach && least[i] >= 0 && least[j] >= 0 && least[j] < least[i] {
						least[i], isChanged = least[j], true
					}
				}
			}
		}
		// In both directions, so that windings are not passed step by step.
		for i := range least {
			pass(i)
		}
		for i := range least {
			pass(len(least) - 1 - i)
		}
	}
	numbers, count := make([]int, len(least)), 0
	for i, first := range least {
		switch {
		case first < 0:
			numbers[i] = -1
		case first == i:
			numbers[i] = count
			count++
		default:
			numbers[i] = numbers[first]
		}
	}
	return numbers, count
}

// labelsOf are the labels of a raster, and the number of its regions.
func labelsOf(a api.Raster, threshold int) ([]int, int) {
	return classesOf(a, 1, func(grey int) bool { return grey >= threshold })
}

// holesOf is the number of holes: of the classes of the background that have no pixel in the first or last row or column.
func holesOf(a api.Raster, threshold int) int {
	numbers, count := classesOf(a, 2, func(grey int) bool { return grey < threshold })
	at := map[int]bool{}
	for x := range a.Width {
		at[numbers[x]], at[numbers[len(numbers)-1-x]] = true, true
	}
	for y := range a.Height {
		at[numbers[y*a.Width]], at[numbers[(y+1)*a.Width-1]] = true, true
	}
	delete(at, -1)
	return count - len(at)
}

// blobOf is the blob of the pixels that a function picks, and whether there are any.
func blobOf(a api.Raster, isPicked func(i int) bool) (api.Blob, bool) {
	var xs, ys, greys []int
	for i, g := range a.Pixels {
		if isPicked(i) {
			xs, ys, greys = append(xs, i%a.Width), append(ys, i/a.Width), append(greys, g)
		}
	}
	if len(xs) == 0 {
		return api.Blob{}, false
	}
	sum := func(term func(k int) int) int {
		total := 0
		for k := range xs {
			total += term(k)
		}
		return total
	}
	return api.Blob{
		Area: len(xs), Left: slices.Min(xs), Top: slices.Min(ys), Right: slices.Max(xs), Bottom: slices.Max(ys),
		SumX:  sum(func(k int) int { return xs[k] }),
		SumY:  sum(func(k int) int { return ys[k] }),
		SumXX: sum(func(k int) int { return xs[k] * xs[k] }),
		SumXY: sum(func(k int) int { return xs[k] * ys[k] }),
		SumYY: sum(func(k int) int { return ys[k] * ys[k] }),
		Mass:  sum(func(k int) int { return greys[k] }),
		MassX: sum(func(k int) int { return greys[k] * xs[k] }),
		MassY: sum(func(k int) int { return greys[k] * ys[k] }),
	}, true
}

// blobsOf are the blobs of all regions.
func blobsOf(a api.Raster, threshold int) []api.Blob {
	labels, count := labelsOf(a, threshold)
	var l []api.Blob
	for n := range count {
		b, _ := blobOf(a, func(i int) bool { return labels[i] == n })
		l = append(l, b)
	}
	return l
}

// size is a width or height.
func size(r *rand.Rand) int {
	return pick(r, 1+r.Intn(4), 3+r.Intn(4), 5+r.Intn(8), 5+r.Intn(8), 20+r.Intn(12))
}

// figure says which pixels are foreground: pixels at random, rings, windings, combs, chequers, blots or bars.
func figure(r *rand.Rand, width, height int) func(x, y int) bool {
	density, k := pick(r, 0.05, 0.2, 0.4, 0.5, 0.6, 0.7, 0.8, 0.9, 0.95), 2+r.Intn(3)
	table := make([]bool, 64*64)
	for i := range table {
		table[i] = r.Float64() < density
	}
	ring := func(x, y int) int { return min(x, y, width-1-x, height-1-y) }
	return pick(r,
		func(x, y int) bool { return table[64*y+x] },
		func(x, y int) bool { return table[64*y+x] },
		func(x, y int) bool { return ring(x, y)%k == 1 },
		func(x, y int) bool { return ring(x, y)%2 == 0 != (x == y && table[x]) },
		func(x, y int) bool { return ring(x, y)%2 == 1 != (y == height/2 && table[x]) },
		func(x, y int) bool { return x%2 == 0 || y == x%4/2*(height-1) },
		func(x, y int) bool { return y%2 == 0 || x == y%4/2*(width-1) },
		func(x, y int) bool { return y == height-1 || x%2 == 0 },
		func(x, y int) bool { return (x+y)%2 == 0 },
		func(x, y int) bool { return x%k != 0 || y%k != 0 },
		func(x, y int) bool { return x%k == 0 || y%k == 0 },
		func(x, y int) bool { return table[64*(y/k)+x/k] },
		func(x, y int) bool { return x%k < k/2 && y%k < k/2 || table[64*y+x] },
	)
}

// random is a raster with a threshold; its foreground has a figure.
func random(r *rand.Rand) (api.Raster, int) {
	width, height := size(r), size(r)
	most := pick(r, 1, 2, 9, 255, 65535, 1+r.Intn(65535))
	threshold := pick(r, 1, most, 1+r.Intn(most))
	isBright := figure(r, width, height)
	a := drawn(width, height, most, func(x, y int) int {
		if isBright(x, y) {
			return pick(r, threshold, most, threshold+r.Intn(most-threshold+1))
		}
		return pick(r, 0, threshold-1, r.Intn(threshold))
	})
	return a, pick(r, threshold, threshold, threshold, threshold, threshold, threshold, threshold, threshold, threshold, threshold, 0, most+1, maxThreshold)
}

// randomBlob is a valid blob, of a region or not; many numbers are at the ends of their ranges.
func randomBlob(r *rand.Rand) api.Blob {
	between := func(low, high int) int { return pick(r, low, high, low+r.Intn(high-low+1), low+r.Intn(high-low+1)) }
	side := func() (int, int) {
		low := between(0, 63)
		return low, between(low, 63)
	}
	var b api.Blob
	b.Area = pick(r, 1, 2, 4095, 4096, 1+r.Intn(10), 1+r.Intn(4096))
	b.Left, b.Right = side()
	b.Top, b.Bottom = side()
	b.SumX, b.SumY = between(b.Area*b.Left, b.Area*b.Right), between(b.Area*b.Top, b.Area*b.Bottom)
	for _, n := range []*int{&b.SumXX, &b.SumXY, &b.SumYY} {
		*n = between(0, b.Area*3969)
	}
	b.Mass = pick(r, 0, 1, b.Area*65535, r.Intn(b.Area*65535+1), r.Intn(b.Area*65535+1))
	b.MassX, b.MassY = between(b.Mass*b.Left, b.Mass*b.Right), between(b.Mass*b.Top, b.Mass*b.Bottom)
	return b
}

// regionBlob is the blob of some pixels of a raster.
func regionBlob(r *rand.Rand) api.Blob {
	for {
		a, threshold := random(r)
		if l := blobsOf(a, threshold); len(l) > 0 {
			return pick(r, l...)
		}
	}
}

// fields are the numbers of a blob.
func fields(b *api.Blob) []*int {
	return []*int{&b.Area, &b.Left, &b.Top, &b.Right, &b.Bottom, &b.SumX, &b.SumY, &b.SumXX, &b.SumXY, &b.SumYY, &b.Mass, &b.MassX, &b.MassY}
}

// isValid reports whether a blob is valid.
func isValid(b api.Blob) bool {
	n := func(k int) *big.Int { return big.NewInt(int64(k)) }
	product := func(j, k int) *big.Int { return new(big.Int).Mul(n(j), n(k)) }
	between := func(k int, low, high *big.Int) bool { return n(k).Cmp(low) >= 0 && n(k).Cmp(high) <= 0 }
	return between(b.Area, n(1), n(4096)) &&
		b.Left >= 0 && b.Left <= b.Right && b.Right < 64 &&
		b.Top >= 0 && b.Top <= b.Bottom && b.Bottom < 64 &&
		between(b.SumX, product(b.Area, b.Left), product(b.Area, b.Right)) &&
		between(b.SumY, product(b.Area, b.Top), product(b.Area, b.Bottom)) &&
		between(b.SumXX, n(0), product(b.Area, 63*63)) &&
		between(b.SumXY, n(0), product(b.Area, 63*63)) &&
		between(b.SumYY, n(0), product(b.Area, 63*63)) &&
		between(b.Mass, n(0), product(b.Area, 65535)) &&
		between(b.MassX, product(b.Mass, b.Left), product(b.Mass, b.Right)) &&
		between(b.MassY, product(b.Mass, b.Top), product(b.Mass, b.Bottom))
}

// invalidBlobs are blobs each of which has one number just or far outside its range; the other numbers fit as well as they can.
func invalidBlobs() []api.Blob {
	base := api.Blob{Area: 4, Left: 2, Top: 3, Right: 5, Bottom: 6, SumX: 12, SumY: 16, SumXX: 40, SumXY: 50, SumYY: 70, Mass: 10, MassX: 30, MassY: 40}
	ends := [][]int{{0, 4097}, {-1, 6}, {-1, 7}, {1, 64}, {2, 64}, {7, 21}, {11, 25}, {-1, 4*3969 + 1}, {-1, 4*3969 + 1}, {-1, 4*3969 + 1}, {-1, 4*65535 + 1}, {19, 51}, {29, 61}}
	l := []api.Blob{{}, {Area: 1, Left: 1}, {Area: -1}, {Area: 1, MassX: 1}, {Area: 1, MassY: -1}}
	for k, values := range ends {
		for _, n := range append(far(), values...) {
			b := base
			*fields(&b)[k] = n
			l = append(l, b)
		}
	}
	full := api.Blob{Area: 4096, Right: 63, Bottom: 63}
	for k, n := range []int{4097, 0, 0, 64, 64, 4096*63 + 1, 4096*63 + 1, 4096*3969 + 1, 4096*3969 + 1, 4096*3969 + 1, 4096*65535 + 1, 1, 1} {
		b := full
		*fields(&b)[k] = n
		if k != 1 && k != 2 {
			l = append(l, b)
		}
	}
	return l
}
