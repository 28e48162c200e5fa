package integer_test

import (
	"math/big"
	"math/rand"
	"slices"
	"strings"
	"testing"

	"fiducial/api"
	"fiducial/integer"
)

var billion = big.NewInt(1_000_000_000)

// bigOf is the value of x, group by group.
func bigOf(x api.Int) *big.Int {
	z := new(big.Int)
	for i := len(x.Groups) - 1; i >= 0; i-- {
		z.Mul(z, billion)
		z.Add(z, big.NewInt(int64(x.Groups[i])))
	}
	if x.Negative {
		z.Neg(z)
	}
	return z
}

// ofBig is the canonical integer with the value of z.
func ofBig(z *big.Int) api.Int {
	x := api.Int{Negative: z.Sign() < 0}
	rest, group := new(big.Int).Abs(z), new(big.Int)
	for rest.Sign() > 0 {
		rest.QuoRem(rest, billion, group)
		x.Groups = append(x.Groups, uint32(group.Int64()))
	}
	return x
}

// bigText is the integer with a decimal text of any length.
func bigText(t *testing.T, s string) *big.Int {
	t.Helper()
	z, ok := new(big.Int).SetString(s, 10)
	if !ok {
		t.Fatalf("%q is no number", s)
	}
	return z
}

// ofText is the integer with a decimal text of any length.
func ofText(t *testing.T, s string) api.Int {
	t.Helper()
	return ofBig(bigText(t, s))
}

// equal fails the test if got is not canonical or has not the value of want.
func equal(t *testing.T, what string, got api.Int, want *big.Int) {
	t.Helper()
	w := ofBig(want)
	if got.Negative != w.Negative || !slices.Equal(got.Groups, w.Groups) {
		t.Fatalf("%s = %v, want %v (%s)", what, got, w, want)
	}
}

// zero fails the test if x is not the zero value.
func zero(t *testing.T, what string, x api.Int) {
	t.Helper()
	if x.Negative || len(x.Groups) != 0 {
		t.Errorf("%s: %v together with an error", what, x)
	}
}

// random returns an integer of at most so many groups, many of which are at the ends of their range, where carries and estimates go wrong.
func random(r *rand.Rand, groups int) api.Int {
	x := api.Int{Groups: make([]uint32, r.Intn(groups+1))}
	style := r.Intn(3)
	for i := range x.Groups {
		g := uint32(r.Intn(1_000_000_000))
		switch {
		case style == 1 && r.Intn(3) > 0:
			g = 999_999_999
		case style == 2 && r.Intn(3) > 0:
			g = uint32(r.Intn(2))
		}
		x.Groups[i] = g
	}
	if n := len(x.Groups); n > 0 {
		x.Groups[n-1] = max(x.Groups[n-1], 1)
		x.Negative = r.Intn(2) == 1
	}
	return x
}

// pairs calls check with many pairs of integers, few of which are long.
func pairs(t *testing.T, check func(x, y api.Int)) {
	t.Helper()
	r := rand.New(rand.NewSource(1))
	for _, c := range []struct{ rounds, x, y int }{{4000, 3, 3}, {4000, 8, 4}, {1500, 20, 20}, {150, 150, 110}, {60, 300, 60}} {
		for range c.rounds {
			x, y := random(r, c.x), random(r, c.y)
			check(x, y)
			check(y, x)
		}
	}
	ends := []string{"0", "1", "-1", "2", "999999999", "1000000000", "-1000000000", "999999999999999999", "1000000000000000000", "18446744073709551615", "18446744073709551616", "1" + strings.Repeat("0", 90), strings.Repeat("9", 90)}
	for _, a := range ends {
		for _, b := range ends {
			check(ofText(t, a), ofText(t, b))
		}
	}
}

// notCanonical are values that are no integers.
func notCanonical() []api.Int {
	return []api.Int{
		{Negative: true},
		{Negative: true, Groups: []uint32{}},
		{Groups: []uint32{0}},
		{Negative: true, Groups: []uint32{0}},
		{Groups: []uint32{5, 0}},
		{Groups: []uint32{5, 7, 0}},
		{Groups: []uint32{1_000_000_000}},
		{Groups: []uint32{1_000_000_000, 1}},
		{Groups: []uint32{1, 1_000_000_000, 1}},
		{Negative: true, Groups: []uint32{1, 1<<32 - 1}},
	}
}

// results are the integers that the functions return for x and y.
func results(x, y api.Int) []api.Int {
	q, r, _ := integer.Divide(x, y)
	p, _ := integer.Power(x, 1)
	root, _ := integer.Root(x)
	return []api.Int{integer.Neg(x), integer.Abs(x), integer.Add(x, y), integer.Sub(x, y), integer.Mul(x, y), q, r, integer.Gcd(x, y), p, root}
}
