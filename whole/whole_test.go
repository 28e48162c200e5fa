package whole_test

import (
	"math/rand"
	"slices"
	"testing"

	"fiducial/api"
	"fiducial/fraction"
	"fiducial/integer"
	"fiducial/whole"
)

// random returns a list of n fractions of one of several sizes, some of which are 0.
func random(r *rand.Rand, n int) []api.Rat {
	size := []int{1, 4, 30, 1 << 40}[r.Intn(4)]
	common := fraction.Whole(1 + r.Intn(size))
	l := make([]api.Rat, n)
	for i := range l {
		l[i], _ = fraction.Of(r.Intn(2*size+1)-size, 1+r.Intn(size))
		l[i] = fraction.Mul(l[i], common)
	}
	return l
}

// ints returns a list of n integers; the first and the last one are not 0.
func ints(r *rand.Rand, n int) []api.Int {
	l := make([]api.Int, n)
	for i, x := range random(r, n) {
		l[i] = fraction.Floor(x)
		if integer.Sign(l[i]) == 0 && (i == 0 || i == n-1) {
			l[i] = integer.Of(-3)
		}
	}
	return l
}

// rats returns integers as fractions.
func rats(l []api.Int) []api.Rat {
	list := make([]api.Rat, len(l))
	for i, x := range l {
		list[i], _ = fraction.New(x, integer.Of(1))
	}
	return list
}

// combined returns x + k y.
func combined(x []api.Rat, k api.Rat, y []api.Rat) []api.Rat {
	l := make([]api.Rat, len(x))
	for i := range l {
		l[i] = fraction.Add(x[i], fraction.Mul(k, y[i]))
	}
	return l
}

// quotient returns x / y.
func quotient(x, y api.Rat) api.Rat {
	q, _ := fraction.Divide(x, y)
	return q
}

// check fails the test if a list has not its form, or not the value of want, number by number.
func check(t *testing.T, what string, got whole.List, want []api.Rat) {
	t.Helper()
	var g api.Int
	for _, x := range got.Items {
		g = integer.Gcd(g, x)
	}
	if fraction.Sign(got.Factor) <= 0 || integer.Compare(g, integer.Of(1)) > 0 {
		t.Fatalf("%s: factor %v, divisor %v", what, got.Factor, g)
	}
	checkRats(t, what, got.Rats(), want)
}

// checkRats fails the test if the numbers are not canonical, or not those of want.
func checkRats(t *testing.T, what string, got, want []api.Rat) {
	t.Helper()
	equal := func(x, y api.Rat) bool { return fraction.Valid(x) && fraction.Text(x) == fraction.Text(y) }
	if !slices.EqualFunc(got, want, equal) {
		t.Fatalf("%s = %v, want %v", what, got, want)
	}
}

// Lists have the least common denominator and no common divisor, and give back their fractions.
func TestList(t *testing.T) {
	r := rand.New(rand.NewSource(1))
	for range 2000 {
		l := random(r, r.Intn(6))
		check(t, "Of", whole.Of(l), l)
		check(t, "Negative", whole.Negative(whole.Of(l)), combined(make([]api.Rat, len(l)), fraction.Whole(-1), l))
		n, d := ints(r, 1+r.Intn(5)), ints(r, 1)
		divided := make([]api.Rat, len(n))
		for i := range n {
			divided[i], _ = fraction.New(n[i], d[0])
		}
		check(t, "Over", whole.Over(n, d[0]), divided)
		m := random(r, len(l))
		dot, _ := fraction.Dot(l, m)
		checkRats(t, "Dot", []api.Rat{whole.Dot(whole.Of(l), whole.Of(m))}, []api.Rat{dot})
	}
	check(t, "Of", whole.Of(nil), nil)
	check(t, "Of", whole.Of(make([]api.Rat, 0)), nil)
	zeros := []api.Rat{fraction.Whole(0), fraction.Whole(0)}
	check(t, "Of", whole.Of(zeros), zeros)
}

// Common divisors that only the last elements show to be too great.
func TestDivisorFallsLate(t *testing.T) {
	// Each number lacks one of the primes.
	primes := []int{2, 3, 5, 7, 11, 13, 1_000_003}
	product := 1
	for _, p := range primes {
		product *= p
	}
	for n := range primes {
		var l []api.Rat
		for _, p := range primes[:n+1] {
			l = append(l, fraction.Whole(product/p*17))
		}
		check(t, "Of", whole.Of(l), l)
	}
}

// A step of elimination makes an element 0; the list loses a multiple of the other one.
func TestEliminate(t *testing.T) {
	r := rand.New(rand.NewSource(2))
	for range 2000 {
		n := 1 + r.Intn(5)
		k := r.Intn(n)
		x, y := random(r, n), random(r, n)
		for i := range k {
			x[i], y[i] = fraction.Whole(0), fraction.Whole(0)
		}
		if fraction.Sign(y[k]) == 0 {
			y[k] = fraction.Whole(-2)
		}
		got := whole.Eliminate(whole.Of(x), whole.Of(y), k)
		check(t, "Eliminate", got, combined(x, fraction.Neg(quotient(x[k], y[k])), y))
		if fraction.Sign(got.At(k)) != 0 {
			t.Fatalf("element %d is %v", k, got.At(k))
		}
	}
}

// A step of substitution takes away multiples of other lists, and divides by the pivot.
func TestSubstitute(t *testing.T) {
	r := rand.New(rand.NewSource(3))
	for range 2000 {
		n, others := 1+r.Intn(4), r.Intn(4)
		items, pivot := ints(r, n), ints(r, 1)
		multiples := make([]api.Int, others)
		lists := make([]whole.List, others)
		want := rats(items)
		for i := range others {
			l := random(r, n)
			multiples[i], lists[i] = ints(r, 3)[1], whole.Of(l)
			want = combined(want, fraction.Neg(rats(multiples[i : i+1])[0]), l)
		}
		inverse := quotient(fraction.Whole(1), rats(pivot)[0])
		check(t, "Substitute", whole.Substitute(items, multiples, lists, pivot[0]), combined(make([]api.Rat, n), inverse, want))
	}
}

// Polynomials: the values of products, quotients and rests are what they must be at more places than the degree is high.
func TestPolynomials(t *testing.T) {
	r := rand.New(rand.NewSource(4))
	for range 500 {
		p, q := ints(r, 1+r.Intn(6)), ints(r, 1+r.Intn(4))
		a, b := whole.Of(rats(p)), whole.Of(rats(q))
		product := whole.Product(a, b)
		check(t, "Product", product, product.Rats())
		quotient, rest := whole.Divide(p, q)
		check(t, "rest", rest, rest.Rats())
		if len(product.Items) != len(p)+len(q)-1 || len(quotient) != max(0, len(p)-len(q)+1) || len(rest.Items) > 0 && len(rest.Items) >= len(q) {
			t.Fatalf("lengths %d, %d, %d of %v and %v", len(product.Items), len(quotient), len(rest.Items), p, q)
		}
		for range 12 {
			x, _ := fraction.Of(r.Intn(2001)-1000, 1+r.Intn(30))
			u, v := whole.Value(a, x), whole.Value(b, x)
			sum := fraction.Add(fraction.Mul(whole.Value(whole.Of(quotient), x), v), whole.Value(rest, x))
			checkRats(t, "values", []api.Rat{whole.Value(product, x), sum}, []api.Rat{fraction.Mul(u, v), u})
			if whole.Sign(a, x) != fraction.Sign(u) {
				t.Fatalf("the sign of %v at %v is %d", p, x, whole.Sign(a, x))
			}
		}
	}
	none, one := whole.Of(nil), whole.Of(rats([]api.Int{integer.Of(1)}))
	if len(whole.Product(none, one).Items) != 0 || len(whole.Product(one, none).Items) != 0 || fraction.Text(whole.Value(none, fraction.Whole(5))) != "0" || whole.Sign(none, fraction.Whole(5)) != 0 {
		t.Error("the zero polynomial")
	}
}
