package radiometry_test

import (
	"math/big"
	"math/rand"
	"slices"
	"testing"

	"fiducial/api"
	"fiducial/radiometry"
)

// misfit is the sum of (gain a + offset - b)^2.
func misfit(a, b []int, gain, offset *big.Rat) *big.Rat {
	sum := new(big.Rat)
	for i, x := range a {
		z := new(big.Rat).Mul(gain, big.NewRat(int64(x), 1))
		z.Add(z, offset)
		z.Sub(z, big.NewRat(int64(b[i]), 1))
		sum.Add(sum, z.Mul(z, z))
	}
	return sum
}

// wantFit fails the test if Fit does not return the only gain and offset at which both derivatives of the sum of squares are 0, which is where it is least, since it is convex.
func wantFit(t *testing.T, a, b []int) (gain, offset *big.Rat) {
	t.Helper()
	before := [][]int{slices.Clone(a), slices.Clone(b)}
	x, y, code := radiometry.Fit(a, b)
	if code != api.OK || !slices.Equal(a, before[0]) || !slices.Equal(b, before[1]) {
		t.Fatalf("Fit(%v, %v): %d", a, b, code)
	}
	gain, offset = bigOf(t, x), bigOf(t, y)
	sum, moment := new(big.Rat), new(big.Rat)
	for i, n := range a {
		z := new(big.Rat).Mul(gain, big.NewRat(int64(n), 1))
		z.Add(z, offset)
		z.Sub(z, big.NewRat(int64(b[i]), 1))
		sum.Add(sum, z)
		moment.Add(moment, z.Mul(z, big.NewRat(int64(n), 1)))
	}
	if sum.Sign() != 0 || moment.Sign() != 0 {
		t.Fatalf("Fit(%v, %v) = %s, %s", a, b, gain, offset)
	}
	return gain, offset
}

// P18.4: the derivatives of the sum of squares are 0.
func TestFit(t *testing.T) {
	some(1500, func(r *rand.Rand) {
		n := 2 + r.Intn(pick(r, 2, 10, 60))
		greatest := pick(r, 1, 3, 255, 65535)
		a, b := make([]int, n), make([]int, n)
		for i := range a {
			a[i], b[i] = r.Intn(greatest+1), pick(r, 0, 65535, r.Intn(greatest+1), r.Intn(65536))
		}
		if slices.Min(a) < slices.Max(a) {
			wantFit(t, a, b)
		}
	})
	for _, c := range []struct {
		a, b         []int
		gain, offset string
	}{
		{[]int{0, 1, 2}, []int{1, 3, 5}, "2", "1"},
		{[]int{0, 1, 1}, []int{0, 1, 3}, "2", "0"},
		{[]int{0, 65535}, []int{65535, 0}, "-1", "65535"},
		{[]int{65534, 65535}, []int{0, 65535}, "65535", "-4294770690"},
		{[]int{3, 5, 9}, []int{7, 7, 7}, "0", "7"},
		{[]int{1, 2, 4}, []int{0, 0, 1}, "5/14", "-1/2"},
	} {
		if x, y, code := radiometry.Fit(c.a, c.b); code != api.OK || text(x) != c.gain || text(y) != c.offset {
			t.Errorf("Fit(%v, %v) = %s, %s, %d", c.a, c.b, text(x), text(y), code)
		}
	}
}

// P18.4: no other gain and offset have a smaller sum.
func TestFitLeast(t *testing.T) {
	some(300, func(r *rand.Rand) {
		a, b := []int{0, 1}, []int{r.Intn(9), r.Intn(9)}
		for range r.Intn(9) {
			a, b = append(a, r.Intn(20)), append(b, r.Intn(20))
		}
		gain, offset := wantFit(t, a, b)
		least := misfit(a, b, gain, offset)
		for range 20 {
			change := func(z *big.Rat) *big.Rat {
				return new(big.Rat).Add(z, big.NewRat(int64(r.Intn(9)-4), int64(1+r.Intn(1000))))
			}
			x, y := change(gain), change(offset)
			if misfit(a, b, x, y).Cmp(least) < 0 {
				t.Fatalf("Fit(%v, %v) = %s, %s; %s, %s is better", a, b, gain, offset, x, y)
			}
		}
	})
}

// P18.4: as many and as great values as there may be.
func TestFitGreat(t *testing.T) {
	a, b := make([]int, 4096), make([]int, 4096)
	for i := range a {
		a[i], b[i] = 65535, 65535*(i%2)
	}
	a[17] = 0
	wantFit(t, a, b)
	for i := range a {
		a[i] = 65535 * (i % 2)
	}
	if x, y, code := radiometry.Fit(a, b); code != api.OK || text(x, y) != "1 0" {
		t.Errorf("Fit = %s, %d", text(x, y), code)
	}
	a[0], b[0] = 65534, 1
	wantFit(t, a, b)
}

// P18.4: the errors, in their order.
func TestFitInvalid(t *testing.T) {
	many := make([]int, 4097)
	for _, c := range []struct {
		a, b []int
		code api.Code
	}{
		{nil, nil, api.ErrLimit},
		{[]int{}, []int{1}, api.ErrLimit},
		{many, many, api.ErrLimit},
		{many, []int{-1}, api.ErrLimit},
		{[]int{1, 2}, nil, api.ErrMismatch},
		{[]int{-1, 2}, []int{1}, api.ErrMismatch},
		{[]int{1, 1}, []int{1, 2, 3}, api.ErrMismatch},
		{many[:4096], many, api.ErrMismatch},
		{[]int{-1, -1}, []int{1, 1}, api.ErrRange},
		{[]int{65536, 0}, []int{1, 1}, api.ErrRange},
		{[]int{0, 65536}, []int{1, 1}, api.ErrRange},
		{[]int{0, 0}, []int{1, 65536}, api.ErrRange},
		{[]int{0, 0}, []int{-1, 1}, api.ErrRange},
		{[]int{5}, []int{7}, api.ErrDegenerate},
		{[]int{0}, []int{0}, api.ErrDegenerate},
		{[]int{65535, 65535, 65535}, []int{1, 2, 3}, api.ErrDegenerate},
		{many[:4096], many[:4096], api.ErrDegenerate},
	} {
		if x, y, code := radiometry.Fit(c.a, c.b); code != c.code || !isZero(x) || !isZero(y) {
			t.Errorf("Fit of %d and %d values: %v, %v, %d, want %d", len(c.a), len(c.b), x, y, code, c.code)
		}
	}
	for _, n := range far() {
		for i := range 3 {
			for k := range 2 {
				l := [2][]int{{0, 1, 2}, {3, 4, 5}}
				l[k][i] = n
				if x, y, code := radiometry.Fit(l[0], l[1]); code != api.ErrRange || !isZero(x) || !isZero(y) {
					t.Errorf("Fit(%v) = %v, %v, %d", l, x, y, code)
				}
			}
		}
	}
}
