package corner_test

import (
	"math"
	"math/big"
	"math/rand"
	"testing"

	"fiducial/api"
	"fiducial/corner"
)

// great is the greatest magnitude of a number of Offset.
const great = 1 << 54

// wantOffset fails the test if Offset does not return the offset.
func wantOffset(t *testing.T, b, a, c int) {
	t.Helper()
	if got, code := corner.Offset(b, a, c); code != api.OK || got != offsetOf(b, a, c) {
		t.Fatalf("Offset(%d, %d, %d) = %d, %d, want %d", b, a, c, got, code, offsetOf(b, a, c))
	}
}

// P20.4: all small numbers.
func TestOffsetSmall(t *testing.T) {
	for i := range 41 * 41 * 41 {
		wantOffset(t, i%41-20, i/41%41-20, i/41/41-20)
	}
}

// P20.4: numbers of all sizes, among them those whose quotient lies in the middle, or scarcely beside it, and those at the ends.
func TestOffset(t *testing.T) {
	some(20000, func(r *rand.Rand) {
		most := pick(r, 100, 1<<20, 1<<40, great)
		number := func() int { return pick(r, most, -most, most-1, 0, r.Intn(2*most+1)-most, r.Intn(2*most+1)-most) }
		wantOffset(t, number(), number(), number())
	})
	some(20000, func(r *rand.Rand) {
		// With d = -64 m and b - c = (2 k + 1) m the quotient is -(k + 1/2).
		m := 2 * pick(r, 1, 2, 1+r.Intn(1000), 1<<40, 1+r.Intn(1<<40))
		k := r.Intn(80) - 40
		c := 2*r.Intn(1000) - 1000
		b := c + (2*k+1)*m
		a := (b + c + 64*m) / 2
		for d := -1; d <= 1; d++ {
			wantOffset(t, b+d, a, c)
			wantOffset(t, b, a+d, c)
			wantOffset(t, b, a, c+d)
		}
	})
	for _, c := range []struct{ b, a, c, want int }{
		{0, 4, 2, 11},
		{3, 3, 0, -32},
		{1, 1, 1, 0},
		{0, 3110000, 0, 0},
		{0, 65, 2, 1},
		{2, 65, 0, 0},
		{0, 67, 6, 2},
		{6, 67, 0, -1},
		{0, 64, 2, 1},
		{2, 64, 0, -1},
		{0, 66, 2, 0},
		{2, 66, 0, 0},
		{0, 5, 5, 32},
		{5, 5, 0, -32},
		{0, 5, 9, 32},
		{9, 5, 0, -32},
		{-great, great, great, 32},
		{great, great, -great, -32},
		{great, -great, great, 0},
		{-great, great, -great, 0},
		{-great, great, 0, 11},
		{0, great, -great, -11},
		{2, 1, 0, 0},
		{0, 1, 2, 0},
	} {
		if got, code := corner.Offset(c.b, c.a, c.c); code != api.OK || got != c.want {
			t.Errorf("Offset(%d, %d, %d) = %d, %d, want %d", c.b, c.a, c.c, got, code, c.want)
		}
	}
}

// P20.4: the parabola through the three points is nowhere greater, but for the rounding; towards the ends, if its greatest value lies outside.
func TestOffsetGreatest(t *testing.T) {
	some(3000, func(r *rand.Rand) {
		b, a, c := r.Intn(200)-100, r.Intn(200)-100, r.Intn(200)-100
		if b-2*a+c >= 0 {
			return
		}
		value := func(at *big.Rat) *big.Rat {
			z := new(big.Rat).Mul(at, big.NewRat(int64(b-2*a+c), 2))
			z.Add(z, big.NewRat(int64(c-b), 2)).Mul(z, at)
			return z.Add(z, big.NewRat(int64(a), 1))
		}
		got, code := corner.Offset(b, a, c)
		best := value(big.NewRat(int64(got), 64))
		for i := -32; i <= 32; i++ {
			if code != api.OK || value(big.NewRat(int64(i), 64)).Cmp(best) > 0 {
				t.Fatalf("Offset(%d, %d, %d) = %d, %d, but %d is better", b, a, c, got, code, i)
			}
		}
	})
}

// P20.4: numbers outside their range, in each place.
func TestOffsetInvalid(t *testing.T) {
	for _, n := range []int{great + 1, -great - 1, math.MaxInt, math.MinInt, 1 << 62, -1 << 62} {
		for i := range 3 {
			l := [3]int{1, 2, 1}
			l[i] = n
			if got, code := corner.Offset(l[0], l[1], l[2]); code != api.ErrRange || got != 0 {
				t.Errorf("Offset(%v) = %d, %d", l, got, code)
			}
		}
	}
}
