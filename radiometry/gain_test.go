package radiometry_test

import (
	"math/big"
	"math/rand"
	"slices"
	"testing"

	"fiducial/api"
	"fiducial/integer"
	"fiducial/radiometry"
)

// example is the gain of the chapter.
func example() api.Gain {
	return api.Gain{Centre: api.Pix{X: 32, Y: 32}, A: rat("1/8"), B: rat("0")}
}

// P18.1: a gain is valid if the gain at each pixel is neither too small nor too great.
func TestCheck(t *testing.T) {
	codes := map[api.Code]int{}
	some(1500, func(r *rand.Rand) {
		width, height := size(r), size(r)
		g := randomGain(t, r, width, height)
		want := api.OK
		for i := range width * height {
			if !isFair(gainOf(t, g, i%width, i/width)) {
				want = api.ErrOutside
			}
		}
		if code := radiometry.Check(g, width, height); code != want {
			t.Fatalf("Check(%v, %d, %d) = %d, want %d", g, width, height, code, want)
		}
		codes[want]++
	})
	if codes[api.OK] < 200 || codes[api.ErrOutside] < 200 {
		t.Errorf("numbers of codes: %v", codes)
	}
}

// P18.1: gains at the ends of their range, at the first, the last and a middle pixel only.
func TestCheckEnds(t *testing.T) {
	small := big.NewRat(1, 1)
	for range 50 {
		small.Quo(small, big.NewRat(1000, 1))
	}
	for _, c := range []struct{ width, height, x, y int }{{1, 1, 0, 0}, {64, 64, 63, 63}, {64, 64, 0, 0}, {3, 5, 2, 0}, {64, 1, 63, 0}, {1, 64, 0, 63}} {
		// The centre is beyond the opposite corner, so that the pixel is the farthest one.
		centre := api.Pix{X: -32, Y: -32}
		if c.x == 0 {
			centre.X = 64*c.width + 32
		}
		if c.y == 0 {
			centre.Y = 64*c.height + 32
		}
		r2 := gainOf(t, api.Gain{Centre: centre, A: rat("1"), B: rat("0")}, c.x, c.y)
		r2.Sub(r2, big.NewRat(1, 1))
		for _, end := range []*big.Rat{big.NewRat(1, 16), big.NewRat(16, 1)} {
			a := new(big.Rat).Sub(end, big.NewRat(1, 1))
			a.Quo(a, r2)
			b := new(big.Rat).Quo(a, r2)
			for _, l := range [][2]*big.Rat{{a, new(big.Rat)}, {new(big.Rat), b}} {
				scaled := func(factor *big.Rat) api.Gain {
					return api.Gain{Centre: centre, A: ofBig(new(big.Rat).Mul(l[0], factor)), B: ofBig(new(big.Rat).Mul(l[1], factor))}
				}
				if code := radiometry.Check(scaled(big.NewRat(1, 1)), c.width, c.height); code != api.OK {
					t.Errorf("gain %s at (%d, %d): %d", end, c.x, c.y, code)
				}
				if code := radiometry.Check(scaled(new(big.Rat).Add(big.NewRat(1, 1), small)), c.width, c.height); code != api.ErrOutside {
					t.Errorf("gain a little beyond %s at (%d, %d): %d", end, c.x, c.y, code)
				}
			}
		}
	}
	// 1 - r2 + B r2^2 is least where r2 = 1 / (2 B), that is 2 for B = 1/4: 0 at the pixel (1, 1), and fair elsewhere.
	ring := api.Gain{Centre: api.Pix{X: 32, Y: 32}, A: rat("-1"), B: rat("1/4")}
	for _, c := range []struct {
		width, height int
		code          api.Code
	}{{1, 1, api.OK}, {2, 1, api.OK}, {1, 3, api.OK}, {2, 2, api.ErrOutside}, {3, 3, api.ErrOutside}} {
		if code := radiometry.Check(ring, c.width, c.height); code != c.code {
			t.Errorf("Check(%d, %d) of the ring: %d, want %d", c.width, c.height, code, c.code)
		}
	}
}

// P18.1: invalid numbers, in the order of the errors.
func TestCheckInvalid(t *testing.T) {
	outside := api.Gain{A: rat("1000"), B: rat("0")}
	for _, x := range notCanonical() {
		for _, n := range []int{0, 1, 65, -5} {
			for _, at := range []int{0, 1<<20 + 1} {
				for _, g := range []api.Gain{{A: x, B: rat("0")}, {A: rat("0"), B: x}, {A: x, B: x}} {
					g.Centre.X = at
					if code := radiometry.Check(g, n, n); code != api.ErrArgument {
						t.Errorf("Check(%v, %d, %d): %d", g, n, n, code)
					}
					if z, code := radiometry.At(g, n, -n); code != api.ErrArgument || !isZero(z) {
						t.Errorf("At(%v, %d, %d) = %v, %d", g, n, -n, z, code)
					}
				}
			}
		}
	}
	for _, n := range append(far(), 0, -1, 65) {
		for _, l := range [][2]int{{n, 1}, {1, n}, {n, n}} {
			for _, g := range []api.Gain{example(), outside} {
				if code := radiometry.Check(g, l[0], l[1]); code != api.ErrRange {
					t.Errorf("Check(%v, %d, %d): %d", g, l[0], l[1], code)
				}
			}
		}
	}
	for _, n := range far() {
		for _, centre := range []api.Pix{{X: n}, {Y: n}, {X: n, Y: n}} {
			g := api.Gain{Centre: centre, A: outside.A, B: outside.B}
			if code := radiometry.Check(g, 1, 1); code != api.ErrRange {
				t.Errorf("Check(%v): %d", g, code)
			}
			if z, code := radiometry.At(g, 0, 0); code != api.ErrRange || !isZero(z) {
				t.Errorf("At(%v) = %v, %d", g, z, code)
			}
		}
	}
	for _, n := range append(far(), -1, 64) {
		for _, l := range [][2]int{{n, 1}, {1, n}, {n, n}} {
			if z, code := radiometry.At(example(), l[0], l[1]); code != api.ErrRange || !isZero(z) {
				t.Errorf("At(%d, %d) = %v, %d", l[0], l[1], z, code)
			}
		}
	}
	// The ends of the ranges.
	for _, n := range []int{1 << 20, -1 << 20} {
		g := api.Gain{Centre: api.Pix{X: n, Y: -n}, A: rat("0"), B: rat("0")}
		if code := radiometry.Check(g, 64, 64); code != api.OK {
			t.Errorf("Check(%v): %d", g, code)
		}
		if z, code := radiometry.At(g, 63, 63); code != api.OK || text(z) != "1" {
			t.Errorf("At(%v) = %v, %d", g, z, code)
		}
	}
}

// P18.1: the gain at all pixels, valid or not.
func TestAt(t *testing.T) {
	for x, want := range []string{"1", "9/8", "3/2"} {
		if z, code := radiometry.At(example(), x, 0); code != api.OK || text(z) != want {
			t.Errorf("At(%d, 0) = %s, %d", x, text(z), code)
		}
	}
	some(4000, func(r *rand.Rand) {
		g := randomGain(t, r, 1+r.Intn(64), 1+r.Intn(64))
		x, y := r.Intn(64), r.Intn(64)
		before := text(g.A, g.B)
		z, code := radiometry.At(g, x, y)
		if want := gainOf(t, g, x, y); code != api.OK || bigOf(t, z).Cmp(want) != 0 {
			t.Fatalf("At(%v, %d, %d) = %v, %d, want %s", g, x, y, z, code, want)
		}
		for _, n := range []api.Int{z.Num, z.Den} {
			for i := range n.Groups {
				n.Groups[i] = 77
			}
		}
		if text(g.A, g.B) != before {
			t.Fatal("At has changed the gain or shares memory with it")
		}
	})
	negative := api.Gain{Centre: api.Pix{X: 32, Y: 32}, A: rat("-1000"), B: rat("1/3")}
	if z, code := radiometry.At(negative, 2, 1); code != api.OK || text(z) != "-14972/3" {
		t.Errorf("At of a gain below 0: %s, %d", text(z), code)
	}
}

// P18.2: grey values are multiplied, rounded and clamped.
func TestCorrect(t *testing.T) {
	clamped, exact := 0, 0
	some(1500, func(r *rand.Rand) {
		width, height, max := size(r), size(r), most(r)
		g := randomGain(t, r, width, height)
		if radiometry.Check(g, width, height) != api.OK {
			return
		}
		a := filled(width, height, max, func() int { return pick(r, 0, max, r.Intn(max+1), r.Intn(max+1)) })
		want := a
		want.Pixels = nil
		for i, v := range a.Pixels {
			product := gainOf(t, g, i%width, i/width)
			product.Mul(product, big.NewRat(int64(v), 1))
			n := greyOf(product, max)
			want.Pixels = append(want.Pixels, n)
			// The consequence that the promise names.
			if product.Cmp(big.NewRat(int64(max), 1)) > 0 {
				clamped++
			} else if product.Sub(product, big.NewRat(int64(n), 1)); product.Abs(product).Cmp(big.NewRat(1, 2)) <= 0 {
				exact++
			}
		}
		before := slices.Clone(a.Pixels)
		got, code := radiometry.Correct(g, a)
		if code != api.OK || !same(got, want) || !slices.Equal(a.Pixels, before) {
			t.Fatalf("Correct(%v, %v) = %v, %d, want %v", g, a, got, code, want)
		}
		a.Pixels[0] += 5
		if !same(got, want) {
			t.Fatal("Correct shares memory with its argument")
		}
	})
	if clamped < 100 || exact < 1000 {
		t.Errorf("%d clamped, %d rounded", clamped, exact)
	}
}

// P18.2: halves are rounded upwards, and what is above Max is clamped, to Max.
func TestCorrectRounding(t *testing.T) {
	for _, c := range []struct{ a, want api.Raster }{
		{of(9, []int{5, 4, 5}), of(9, []int{5, 5, 8})},
		{of(9, []int{9, 8, 6}), of(9, []int{9, 9, 9})},
		{of(7, []int{7, 7, 7}), of(7, []int{7, 7, 7})},
		{of(65535, []int{1, 0, 65535}), of(65535, []int{1, 0, 65535})},
		{of(65535, []int{1, 4, 43690}), of(65535, []int{1, 5, 65535})},
		{of(65535, []int{1, 12, 43689}), of(65535, []int{1, 14, 65534})},
	} {
		if got, code := radiometry.Correct(example(), c.a); code != api.OK || !same(got, c.want) {
			t.Errorf("Correct(%v) = %v, %d, want %v", c.a, got, code, c.want)
		}
	}
	// The least gain of all, 1/16, at the pixel (1, 0).
	least := api.Gain{Centre: api.Pix{X: 32, Y: 32}, A: rat("-15/16"), B: rat("0")}
	if got, code := radiometry.Correct(least, of(100, []int{7, 8}, []int{9, 0})); code != api.ErrOutside || !isBlank(got) {
		t.Errorf("Correct = %v, %d", got, code)
	}
	for g, want := range []int{0, 0, 0, 0, 0, 0, 0, 0, 1, 1, 1, 1, 1, 1, 1, 1, 1, 1, 1, 1, 1, 1, 1, 1, 2} {
		if got, code := radiometry.Correct(least, of(100, []int{7, g})); code != api.OK || !same(got, of(100, []int{7, want})) {
			t.Errorf("Correct of %d = %v, %d", g, got, code)
		}
	}
}

// P18.2: the raster comes first, then what Check says of its size.
func TestCorrectInvalid(t *testing.T) {
	for _, a := range invalidRasters() {
		for _, g := range []api.Gain{example(), {}, {A: rat("0"), B: rat("0"), Centre: api.Pix{X: 1 << 30}}, {A: rat("1000"), B: rat("0")}} {
			if got, code := radiometry.Correct(g, a); code != api.ErrArgument || !isBlank(got) {
				t.Errorf("Correct(%v, %v) = %v, %d", g, a, got, code)
			}
		}
	}
	a := of(9, []int{1, 2, 3}, []int{4, 5, 6})
	for _, c := range []struct {
		g    api.Gain
		code api.Code
	}{
		{api.Gain{}, api.ErrArgument},
		{api.Gain{A: rat("0"), Centre: api.Pix{X: 1 << 30}}, api.ErrArgument},
		{api.Gain{B: api.Rat{Num: integer.Of(4), Den: integer.Of(2)}, A: rat("1000")}, api.ErrArgument},
		{api.Gain{A: rat("1000"), B: rat("0"), Centre: api.Pix{Y: 1<<20 + 1}}, api.ErrRange},
		{api.Gain{A: rat("3"), B: rat("0"), Centre: api.Pix{X: 32, Y: 32}}, api.OK},
		{api.Gain{A: rat("3"), B: rat("1/10000"), Centre: api.Pix{X: 32, Y: 32}}, api.ErrOutside},
	} {
		got, code := radiometry.Correct(c.g, a)
		if code != c.code || code != api.OK && !isBlank(got) {
			t.Errorf("Correct(%v) = %v, %d, want %d", c.g, got, code, c.code)
		}
	}
}
