package radiometry_test

import (
	"math"
	"math/big"
	"math/rand"
	"slices"
	"strings"
	"testing"

	"fiducial/api"
	"fiducial/fraction"
	"fiducial/integer"
)

// of is a raster with some rows.
func of(most int, rows ...[]int) api.Raster {
	return api.Raster{Width: len(rows[0]), Height: len(rows), Max: most, Pixels: slices.Concat(rows...)}
}

// pick is an element of a list.
func pick[T any](r *rand.Rand, l ...T) T { return l[r.Intn(len(l))] }

// some calls check many times.
func some(rounds int, check func(r *rand.Rand)) {
	r := rand.New(rand.NewSource(18))
	for range rounds {
		check(r)
	}
}

// filled is a raster whose pixels a function says.
func filled(width, height, most int, grey func() int) api.Raster {
	a := api.Raster{Width: width, Height: height, Max: most}
	for range width * height {
		a.Pixels = append(a.Pixels, grey())
	}
	return a
}

// size is a width or height; most are small.
func size(r *rand.Rand) int { return pick(r, 1, 2, 3, 1+r.Intn(9), 1+r.Intn(9), 1+r.Intn(64)) }

// most is a greatest grey value.
func most(r *rand.Rand) int { return pick(r, 1, 2, 255, 65535, 1+r.Intn(65535)) }

// same reports whether two rasters have the same fields.
func same(a, b api.Raster) bool {
	return a.Width == b.Width && a.Height == b.Height && a.Max == b.Max && slices.Equal(a.Pixels, b.Pixels)
}

// isBlank reports whether a raster is the zero value.
func isBlank(a api.Raster) bool { return same(a, api.Raster{}) }

// bigOf is the value of x; what is not canonical has none.
func bigOf(t *testing.T, x api.Rat) *big.Rat {
	t.Helper()
	if !fraction.Valid(x) {
		t.Fatalf("%v is not canonical", x)
	}
	z, _ := new(big.Rat).SetString(integer.Text(x.Num) + "/" + integer.Text(x.Den))
	return z
}

// ofBig is the canonical fraction with the value of z.
func ofBig(z *big.Rat) api.Rat {
	num, _ := integer.Parse(z.Num().String())
	den, _ := integer.Parse(z.Denom().String())
	x, _ := fraction.New(num, den)
	return x
}

// rat is the fraction with a text.
func rat(s string) api.Rat {
	z, ok := new(big.Rat).SetString(s)
	if !ok {
		panic(s + " is no fraction")
	}
	return ofBig(z)
}

// text has the texts of some fractions; what is not canonical is marked.
func text(l ...api.Rat) string {
	var s []string
	for _, x := range l {
		if !fraction.Valid(x) {
			s = append(s, "?")
			continue
		}
		s = append(s, fraction.Text(x))
	}
	return strings.Join(s, " ")
}

// isZero reports whether x is the zero value.
func isZero(x api.Rat) bool {
	return !x.Num.Negative && !x.Den.Negative && len(x.Num.Groups) == 0 && len(x.Den.Groups) == 0
}

// notCanonical are values that are no fractions.
func notCanonical() []api.Rat {
	return []api.Rat{
		{},
		{Num: integer.Of(1)},
		{Num: integer.Of(2), Den: integer.Of(6)},
		{Num: integer.Of(1), Den: integer.Of(-1)},
		{Num: api.Int{Groups: []uint32{5, 0}}, Den: integer.Of(1)},
		{Num: api.Int{Groups: []uint32{1_000_000_000}}, Den: integer.Of(1)},
		{Num: api.Int{Negative: true}, Den: integer.Of(1)},
	}
}

// far are numbers that are no size, coordinate, weight or grey value.
func far() []int {
	return []int{math.MinInt, math.MinInt + 1, math.MaxInt, math.MaxInt - 1, 1<<20 + 1, -1<<20 - 1, 1 << 32, -1 << 32, 1 << 62, -1 << 62}
}

// invalidRasters are values that are no rasters.
func invalidRasters() []api.Raster {
	l := []api.Raster{{}, {Pixels: []int{0}}, {Width: 1, Height: 1, Max: 1}, {Width: 2, Height: 0, Max: 1}}
	for _, n := range append(far(), -1, 65) {
		l = append(l, api.Raster{Width: n, Height: 1, Max: 1, Pixels: make([]int, 65)}, api.Raster{Width: 1, Height: n, Max: 1, Pixels: make([]int, 65)}, of(64, []int{0, n}))
	}
	return append(l, of(0, []int{0}), of(65536, []int{0}), of(1, []int{1, 2}), api.Raster{Width: 2, Height: 2, Max: 1, Pixels: make([]int, 3)})
}

// gainOf is the gain at a pixel, by its definition.
func gainOf(t *testing.T, g api.Gain, x, y int) *big.Rat {
	t.Helper()
	square := func(x, centre int) *big.Rat {
		d := big.NewRat(int64(64*x+32-centre), 64)
		return d.Mul(d, d)
	}
	r2 := square(x, g.Centre.X)
	r2.Add(r2, square(y, g.Centre.Y))
	gain := new(big.Rat).Mul(bigOf(t, g.B), r2)
	gain.Add(gain, bigOf(t, g.A))
	gain.Mul(gain, r2)
	return gain.Add(gain, big.NewRat(1, 1))
}

// isFair reports whether a gain is from 1/16 to 16.
func isFair(gain *big.Rat) bool {
	return gain.Cmp(big.NewRat(1, 16)) >= 0 && gain.Cmp(big.NewRat(16, 1)) <= 0
}

// greyOf is z rounded to the nearest integer, of two the greater one, and clamped.
func greyOf(z *big.Rat, most int) int {
	z = new(big.Rat).Add(z, big.NewRat(1, 2))
	n := new(big.Int).Div(z.Num(), z.Denom())
	switch {
	case n.Sign() < 0:
		return 0
	case n.Cmp(big.NewInt(int64(most))) > 0:
		return most
	}
	return int(n.Int64())
}

// randomGain is a gain; most are valid for a size, some scarcely or scarcely not.
func randomGain(t *testing.T, r *rand.Rand, width, height int) api.Gain {
	g := api.Gain{Centre: api.Pix{X: r.Intn(64*width + 1), Y: r.Intn(64*height + 1)}}
	if r.Intn(4) == 0 {
		g.Centre = api.Pix{X: pick(r, 1<<20, -1<<20, r.Intn(1<<21)-1<<20), Y: pick(r, 1<<20, -1<<20, r.Intn(1<<21)-1<<20)}
	}
	number := func() *big.Rat {
		z := big.NewRat(int64(r.Intn(2001)-1000), int64(1+r.Intn(1000)))
		if r.Intn(4) == 0 {
			z.Mul(z, new(big.Rat).SetFrac(new(big.Int).Exp(big.NewInt(7), big.NewInt(90), nil), new(big.Int).Exp(big.NewInt(3), big.NewInt(160), nil)))
		}
		return z
	}
	// The numbers are made so small that their parts of the gain at the corner that is the farthest are of the order of 1.
	g.A, g.B = rat("1"), rat("0")
	far := big.NewRat(1, 1)
	for _, x := range []int{0, width - 1} {
		for _, y := range []int{0, height - 1} {
			if r2 := gainOf(t, g, x, y); r2.Cmp(far) > 0 {
				far = r2
			}
		}
	}
	a, b := number(), number()
	g.A = ofBig(a.Quo(a, far))
	g.B = ofBig(b.Quo(b, far.Mul(far, far)))
	switch r.Intn(6) {
	case 0:
		g.A = rat("0")
	case 1:
		g.B = rat("0")
	}
	return g
}
