package camera_test

import (
	"math/big"
	"math/rand"
	"testing"

	"fiducial/api"
	"fiducial/camera"
	"fiducial/fraction"
)

// bernstein are the coefficients of p(t) for t from 0 to end in Bernstein's basis, in which all values lie between the least and the greatest one.
func bernstein(p []*big.Rat, end *big.Rat) []*big.Rat {
	n := len(p) - 1
	binomial := func(n, k int) *big.Rat { return new(big.Rat).SetInt(new(big.Int).Binomial(int64(n), int64(k))) }
	b := make([]*big.Rat, n+1)
	for j := range b {
		b[j] = new(big.Rat)
		power := big.NewRat(1, 1)
		for i := 0; i <= j; i++ {
			b[j] = add(b[j], mul(mul(p[i], power), quo(binomial(j, i), binomial(n, i))))
			power = mul(power, end)
		}
	}
	return b
}

// isPositive reports whether a polynomial in Bernstein's basis is above 0 everywhere. A polynomial that touches 0 is never decided: then it is taken to touch it.
func isPositive(b []*big.Rat, depth int) bool {
	n := len(b) - 1
	if b[0].Sign() <= 0 || b[n].Sign() <= 0 || depth == 0 {
		return false
	}
	all := true
	for _, c := range b {
		all = all && c.Sign() > 0
	}
	if all {
		return true
	}
	// The two halves, by de Casteljau's scheme.
	left, right := make([]*big.Rat, n+1), make([]*big.Rat, n+1)
	row := append([]*big.Rat{}, b...)
	for i := range b {
		left[i], right[n-i] = row[0], row[n-i]
		for k := range n - i {
			row[k] = mul(big.NewRat(1, 2), add(row[k], row[k+1]))
		}
	}
	return isPositive(left, depth-1) && isPositive(right, depth-1)
}

// admissible reports whether k / 256 is admissible, by the definition.
func admissible(l api.Lens, k int) bool {
	end := mul(radius(l), radius(l))
	m := big.NewRat(int64(k), 256)
	number := func(n int) *big.Rat { return big.NewRat(int64(n), unit) }
	p1, p2 := number(l.Tangential[0]), number(l.Tangential[1])
	tangential := mul(big.NewRat(36, 1), add(mul(p1, p1), mul(p2, p2)))
	for _, factors := range [][]int64{{1, 1, 1, 1}, {1, 3, 5, 7}} {
		p := []*big.Rat{sub(big.NewRat(1, 1), m)}
		for i, n := range l.Radial {
			p = append(p, mul(big.NewRat(factors[i+1], 1), number(n)))
		}
		square := make([]*big.Rat, 7)
		for i := range square {
			square[i] = new(big.Rat)
		}
		for i, x := range p {
			for j, y := range p {
				square[i+j] = add(square[i+j], mul(x, y))
			}
		}
		square[1] = sub(square[1], tangential)
		if !isPositive(bernstein(p, end), 100) || !isPositive(bernstein(square, end), 100) {
			return false
		}
	}
	return true
}

// P17.2: the modulus is the greatest admissible number.
func TestModulus(t *testing.T) {
	none, greatest := 0, 0
	some(600, func(r *rand.Rand) {
		l := randomLens(r)
		m, code := camera.Modulus(l)
		k := 0
		if code == api.OK {
			z := mul(bigOf(t, m), big.NewRat(256, 1))
			k = int(z.Num().Int64())
			if !z.IsInt() || k < 1 || k > 255 {
				t.Fatalf("Modulus(%v) = %s", l, z)
			}
			if k == 255 {
				greatest++
			}
		} else if none++; code != api.ErrDegenerate || !isZero(m) {
			t.Fatalf("Modulus(%v) = %v, %d", l, m, code)
		}
		tries := []int{k, k + 1, k - 1, 1 + r.Intn(255), 1, 255}
		for _, i := range tries {
			if i >= 1 && i <= 255 && admissible(l, i) != (i <= k) {
				t.Fatalf("Modulus(%v) = %d/256, but %d/256 is admissible: %t", l, k, i, i > k)
			}
		}
	})
	if none < 20 || greatest < 5 || greatest > 300 {
		t.Errorf("%d lenses without a modulus, %d with the greatest one", none, greatest)
	}
}

// P17.2: numbers at which a polynomial is just 0, at the end of the field, within it and beyond it.
func TestModulusTouches(t *testing.T) {
	lens := func(focal, field int, numbers ...int) api.Lens {
		return api.Lens{Focal: focal, Field: field, Radial: [3]int{numbers[0], numbers[1], numbers[2]}, Tangential: [2]int{numbers[3], numbers[4]}}
	}
	for _, c := range []struct {
		l    api.Lens
		want string
	}{
		{lens(64, 64, 0, 0, 0, 0, 0), "255/256"},
		{lens(64, 64, -unit/8, 0, 0, 0, 0), "159/256"},
		{lens(64, 64, -unit/8+1, 0, 0, 0, 0), "5/8"},
		{lens(64, 64, -unit/2, 0, 0, 0, 0), ""},
		{lens(64, 16, 0, 0, 0, unit/16, 0), "231/256"},
		{lens(64, 16, 0, 0, 0, 0, -unit/16), "231/256"},
		{lens(64, 16, 0, 0, 0, unit/16-1, 0), "29/32"},
		// M(1) = 1/256, and a little more.
		{lens(64, 64, -85*unit/256, 0, 0, 0, 0), ""},
		{lens(64, 64, -85*unit/256+1, 0, 0, 0, 0), "1/256"},
		// M = 1 - 15/16 t + 225/512 t^2 is 1/2 at t = 16/15, and above it elsewhere.
		{lens(10, 20, -5*unit/16, 45*unit/512, 0, 0, 0), "127/256"},
		{lens(10, 11, -5*unit/16, 45*unit/512, 0, 0, 0), "127/256"},
		{lens(10, 10, -5*unit/16, 45*unit/512, 0, 0, 0), "1/2"},
		{lens(10, 20, -5*unit/16, 45*unit/512+1, 0, 0, 0), "1/2"},
		// (L - 3/4)^2 = (1/4 + 9/256 t)^2 is 36 t / 1024 at t = 64/9, and above it elsewhere.
		{lens(10, 30, 9*unit/256, 0, 0, unit/32, 0), "191/256"},
		{lens(10, 27, 9*unit/256, 0, 0, 0, unit/32), "191/256"},
		{lens(10, 26, 9*unit/256, 0, 0, unit/32, 0), "3/4"},
		{lens(10, 30, 9*unit/256, 0, 0, -unit/32+1, 0), "3/4"},
		// The greatest distortion in the smallest field.
		{lens(unit, 1, -unit, -unit, -unit, 0, 0), "255/256"},
		{lens(unit, 1, unit, unit, unit, unit, unit), "255/256"},
		{lens(1, unit, unit, unit, unit, 0, 0), "255/256"},
		{lens(1, unit, 1, 1, 1, 0, 0), "255/256"},
		{lens(1, unit, 0, 0, -1, 0, 0), ""},
		// M = 1 - 3 t + 2 t^2 is above 0 at both ends of the field, but not between.
		{lens(10, 15, -unit, 2*unit/5, 0, 0, 0), ""},
		{lens(10, 4, -unit, 2*unit/5, 0, 0, 0), "73/128"},
	} {
		m, code := camera.Modulus(c.l)
		if c.want == "" {
			if code != api.ErrDegenerate || !isZero(m) {
				t.Errorf("Modulus(%v) = %v, %d", c.l, m, code)
			}
		} else if code != api.OK || fraction.Text(m) != c.want {
			t.Errorf("Modulus(%v) = %s, %d, want %s", c.l, fraction.Text(m), code, c.want)
		}
		if admissible(c.l, 1) != (c.want != "") {
			t.Errorf("the reference does not agree that the modulus of %v is %s", c.l, c.want)
		}
	}
}
