package fraction_test

import (
	"math/big"
	"math/rand"
	"slices"
	"testing"

	"fiducial/api"
	"fiducial/fraction"
	"fiducial/integer"
)

var billion = big.NewInt(1_000_000_000)

// bigInt is the value of x.
func bigInt(x api.Int) *big.Int {
	z := new(big.Int)
	for i := len(x.Groups) - 1; i >= 0; i-- {
		z.Mul(z, billion)
		z.Add(z, big.NewInt(int64(x.Groups[i])))
	}
	if x.Negative {
		z.Neg(z)
	}
	return z
}

// ofInt is the canonical integer with the value of z.
func ofInt(z *big.Int) api.Int {
	x := api.Int{Negative: z.Sign() < 0}
	rest, group := new(big.Int).Abs(z), new(big.Int)
	for rest.Sign() > 0 {
		rest.QuoRem(rest, billion, group)
		x.Groups = append(x.Groups, uint32(group.Int64()))
	}
	return x
}

// bigRat is the value of x, which is canonical.
func bigRat(x api.Rat) *big.Rat {
	return new(big.Rat).SetFrac(bigInt(x.Num), bigInt(x.Den))
}

// ofRat is the canonical fraction with the value of z.
func ofRat(z *big.Rat) api.Rat {
	return api.Rat{Num: ofInt(z.Num()), Den: ofInt(z.Denom())}
}

// ofText is the fraction with a text of any length.
func ofText(t *testing.T, s string) api.Rat {
	t.Helper()
	z, ok := new(big.Rat).SetString(s)
	if !ok {
		t.Fatalf("%q is no fraction", s)
	}
	return ofRat(z)
}

// sameInt reports whether x and y have the same form.
func sameInt(x, y api.Int) bool {
	return x.Negative == y.Negative && slices.Equal(x.Groups, y.Groups)
}

// same reports whether x and y have the same form.
func same(x, y api.Rat) bool {
	return sameInt(x.Num, y.Num) && sameInt(x.Den, y.Den)
}

// equal fails the test if got is not canonical or has not the value of want.
func equal(t *testing.T, what string, got api.Rat, want *big.Rat) {
	t.Helper()
	if !same(got, ofRat(want)) {
		t.Fatalf("%s = %v, want %s", what, got, want)
	}
}

// zero fails the test if x is not the zero value, which goes with an error.
func zero(t *testing.T, what string, x api.Rat) {
	t.Helper()
	if !same(x, api.Rat{}) {
		t.Errorf("%s: %v together with an error", what, x)
	}
}

// short returns a fraction with small parts; many are equal, whole or 0.
func short(r *rand.Rand) *big.Rat {
	return big.NewRat(int64(r.Intn(41)-20), int64(r.Intn(12)+1))
}

// random returns a fraction; the size of its parts has all sorts of bounds.
func random(r *rand.Rand) *big.Rat {
	bits := []int{3, 10, 31, 32, 33, 62, 64, 90, 400}
	return new(big.Rat).SetFrac(randomInt(r, bits), new(big.Int).Add(new(big.Int).Abs(randomInt(r, bits)), big.NewInt(1)))
}

func randomInt(r *rand.Rand, bits []int) *big.Int {
	one := big.NewInt(1)
	n := new(big.Int).Lsh(one, uint(bits[r.Intn(len(bits))]))
	if r.Intn(3) > 0 {
		n.Rand(r, n)
	} else {
		n.Sub(n, big.NewInt(int64(r.Intn(3))))
	}
	if r.Intn(2) == 1 {
		n.Neg(n)
	}
	return n
}

// pairs calls check with many pairs of fractions, many of which have common divisors.
func pairs(check func(x, y *big.Rat)) {
	r := rand.New(rand.NewSource(1))
	for range 2000 {
		x, y := random(r), random(r)
		check(x, y)
		check(new(big.Rat).Mul(x, y), y)
		check(x, new(big.Rat).SetFrac(y.Num(), x.Denom()))
		check(short(r), short(r))
	}
	// Around the bounds of the parts that are calculated with in 64 bits.
	ends := []int64{0, 1, 1<<31 - 1, 1 << 31, 1<<31 + 1, 1 << 32, 1<<62 - 1, 1<<63 - 1}
	for _, a := range ends {
		for _, b := range ends[1:] {
			for _, c := range ends {
				for _, d := range ends[1:] {
					check(big.NewRat(a, b), big.NewRat(-c, d))
					check(big.NewRat(-a, b), big.NewRat(-c, d))
				}
			}
		}
	}
}

// notCanonical are values that are no fractions.
func notCanonical() []api.Rat {
	one, two, six := integer.Of(1), integer.Of(2), integer.Of(6)
	long := ofInt(new(big.Int).Exp(big.NewInt(7), big.NewInt(90), nil))
	return []api.Rat{
		{},
		{Num: one},
		{Den: two},
		{Den: long},
		{Num: two, Den: six},
		{Num: long, Den: long},
		{Num: six, Den: integer.Of(-7)},
		{Num: one, Den: integer.Of(-1)},
		{Den: integer.Of(-1)},
		{Num: long, Den: integer.Neg(one)},
		{Num: integer.Mul(long, two), Den: integer.Of(14)},
		{Num: api.Int{Groups: []uint32{5, 0}}, Den: one},
		{Num: api.Int{Groups: []uint32{5, 7, 9, 0}}, Den: two},
		{Num: api.Int{Groups: []uint32{1_000_000_000}}, Den: one},
		{Num: api.Int{Negative: true}, Den: one},
		{Num: api.Int{Groups: []uint32{0}}, Den: one},
		{Num: one, Den: api.Int{Groups: []uint32{2, 0}}},
		{Num: one, Den: api.Int{Groups: []uint32{1, 0}}},
		{Num: one, Den: api.Int{Groups: []uint32{1 << 31}}},
		{Num: one, Den: api.Int{Groups: []uint32{0}}},
	}
}

// results are the fractions that the functions return for x and y.
func results(x, y api.Rat) []api.Rat {
	n, _ := fraction.New(x.Num, y.Den)
	q, _ := fraction.Divide(x, y)
	down, _ := fraction.Down(x, 20)
	up, _ := fraction.Up(x, 20)
	near, _ := fraction.Near(x, 20)
	low, high, _ := fraction.Root(x, 20)
	s, _ := fraction.Simplest(x, y)
	dot, _ := fraction.Dot([]api.Rat{x, y}, []api.Rat{fraction.Whole(1), fraction.Whole(0)})
	least, _ := fraction.Least([]api.Rat{x, y})
	greatest, _ := fraction.Greatest([]api.Rat{x, y})
	return []api.Rat{fraction.Value(x), n, fraction.Neg(x), fraction.Abs(x), fraction.Add(x, y), fraction.Sub(x, y), fraction.Mul(x, y), q, {Num: fraction.Floor(x), Den: fraction.Ceil(x)}, down, up, near, low, high, s, fraction.Sum([]api.Rat{x}), fraction.Sum([]api.Rat{x, y}), dot, least, greatest}
}
