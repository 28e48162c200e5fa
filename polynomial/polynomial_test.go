package polynomial_test

import (
	"fmt"
	"math"
	"math/big"
	"math/rand"
	"slices"
	"testing"

	"fiducial/api"
	"fiducial/fraction"
	"fiducial/polynomial"
)

// P4.1: which polynomials are canonical, what the others count as, and their degree.
func TestValidCleanDegree(t *testing.T) {
	for _, c := range []struct {
		p      api.Poly
		valid  bool
		degree int
	}{
		{nil, true, -1},
		{api.Poly{}, true, -1},
		{poly("0"), false, -1},
		{poly("0 0 0"), false, -1},
		{poly("5"), true, 0},
		{poly("5 0"), false, 0},
		{poly("0 0 -1/3"), true, 2},
		{poly("1 2 0 0"), false, 1},
	} {
		if polynomial.Valid(c.p) != c.valid || polynomial.Degree(c.p) != c.degree {
			t.Errorf("%s: %t, degree %d", text(c.p), polynomial.Valid(c.p), polynomial.Degree(c.p))
		}
	}
	for _, x := range notCanonical() {
		for i := range 3 {
			p := poly("1 2 3")
			p[i] = x
			want := refer(p)
			if polynomial.Valid(p) || polynomial.Degree(p) != len(want)-1 {
				t.Errorf("%v: %t, degree %d", p, polynomial.Valid(p), polynomial.Degree(p))
			}
			equal(t, "Clean", polynomial.Clean(p), want)
		}
	}
	some(250, func(p, q api.Poly) {
		clean := polynomial.Clean(p)
		equal(t, "Clean", clean, refer(p))
		if !polynomial.Valid(clean) || polynomial.Valid(p) != same(p, clean) || polynomial.Degree(p) != len(clean)-1 {
			t.Fatalf("%v is valid: %t, degree %d", p, polynomial.Valid(p), polynomial.Degree(p))
		}
	})
}

// P4.1: sums, products, values and derivatives.
func TestArithmetic(t *testing.T) {
	numbers := append(notCanonical(), rat("0"), rat("1"), rat("-1"), rat("2/3"), rat("-123456789012345678901/98765432109876543"))
	some(250, func(p, q api.Poly) {
		a, b := refer(p), refer(q)
		equal(t, "Add", polynomial.Add(p, q), a.plus(big.NewRat(1, 1), b))
		equal(t, "Sub", polynomial.Sub(p, q), a.plus(big.NewRat(-1, 1), b))
		equal(t, "Mul", polynomial.Mul(p, q), a.times(b))
		equal(t, "Derive", polynomial.Derive(p), a.derivative())
		for _, x := range numbers {
			z := bigOf(fraction.Value(x))
			equal(t, "Scale", polynomial.Scale(p, x), reference(nil).plus(z, a))
			if got := polynomial.Eval(p, x); !sameRat(got, ofBig(a.at(z))) {
				t.Fatalf("%s at %s: %v", text(p), z, got)
			}
		}
	})
}

// P4.1: leading coefficients that cancel, whole or in part.
func TestCancelling(t *testing.T) {
	p := poly("1 2 3")
	equal(t, "Sub", polynomial.Sub(p, p), nil)
	equal(t, "Sub", polynomial.Sub(p, poly("0 2 3")), refer(poly("1")))
	equal(t, "Add", polynomial.Add(p, poly("-1 1 -3")), refer(poly("0 3")))
	equal(t, "Add", polynomial.Add(p, poly("-1 -2 -3 0 0")), nil)
	equal(t, "Scale", polynomial.Scale(p, rat("0")), nil)
	equal(t, "Derive", polynomial.Derive(poly("7 0 0")), nil)
	if s := polynomial.Sub(p, poly("0 2 3")); cap(s) != 1 {
		t.Errorf("the capacity is %d", cap(s))
	}
}

// P4.2: the laws of a commutative ring, of the values and of the derivative.
func TestRing(t *testing.T) {
	r := rand.New(rand.NewSource(5))
	add, mul, eval, derive := polynomial.Add, polynomial.Mul, polynomial.Eval, polynomial.Derive
	one := poly("1")
	for range 500 {
		p, q, s := random(r, 6), random(r, 6), random(r, 6)
		x, _ := fraction.Of(r.Intn(41)-20, 1+r.Intn(7))
		laws := []bool{
			same(add(p, q), add(q, p)),
			same(mul(p, q), mul(q, p)),
			same(add(add(p, q), s), add(p, add(q, s))),
			same(mul(mul(p, q), s), mul(p, mul(q, s))),
			same(mul(p, add(q, s)), add(mul(p, q), mul(p, s))),
			same(add(p, nil), polynomial.Clean(p)),
			same(mul(p, one), polynomial.Clean(p)),
			len(mul(p, nil)) == 0,
			len(polynomial.Sub(p, p)) == 0,
			same(polynomial.Sub(p, q), add(p, polynomial.Scale(q, rat("-1")))),
			same(polynomial.Scale(p, x), mul(p, api.Poly{x})),
			sameRat(eval(add(p, q), x), fraction.Add(eval(p, x), eval(q, x))),
			sameRat(eval(mul(p, q), x), fraction.Mul(eval(p, x), eval(q, x))),
			same(derive(add(p, q)), add(derive(p), derive(q))),
			same(derive(mul(p, q)), add(mul(derive(p), q), mul(p, derive(q)))),
		}
		if i := slices.Index(laws, false); i >= 0 {
			t.Fatalf("law %d does not hold for %s; %s; %s at %s", i, text(p), text(q), text(s), fraction.Text(x))
		}
	}
}

// P4.3: quotients and rests.
func TestDivide(t *testing.T) {
	some(250, func(p, q api.Poly) {
		quotient, rest, code := polynomial.Divide(p, q)
		a, b := refer(p), refer(q)
		if len(b) == 0 {
			if code != api.ErrSingular || len(quotient) != 0 || len(rest) != 0 {
				t.Fatalf("Divide(%s, 0) = %s, %s, %d", text(p), text(quotient), text(rest), code)
			}
			return
		}
		wantQuotient, wantRest := a.divide(b)
		equal(t, "quotient", quotient, wantQuotient)
		equal(t, "rest", rest, wantRest)
		sum := polynomial.Add(polynomial.Mul(quotient, q), rest)
		if code != api.OK || polynomial.Degree(rest) >= polynomial.Degree(q) || !same(sum, polynomial.Clean(p)) {
			t.Fatalf("Divide(%s, %s) = %s, %s, %d", text(p), text(q), text(quotient), text(rest), code)
		}
	})
	// Example 1.
	quotient, rest, code := polynomial.Divide(poly("-2 1 1"), poly("-1 1"))
	if text(quotient) != "2 1" || len(rest) != 0 || code != api.OK {
		t.Errorf("%s, %s, %d", text(quotient), text(rest), code)
	}
}

// P4.3: a long quotient, with a divisor that is not monic.
func TestDivideLong(t *testing.T) {
	r := rand.New(rand.NewSource(6))
	p := make(api.Poly, 120)
	for i := range p {
		p[i] = fraction.Whole(r.Intn(199) - 99)
	}
	p[119] = fraction.Whole(5)
	for _, q := range []api.Poly{poly("2 -7"), poly("1 0 -3/7"), poly("5 -4 0 0 12"), p[:60], p[:119], p} {
		quotient, rest, code := polynomial.Divide(p, q)
		wantQuotient, wantRest := refer(p).divide(refer(q))
		equal(t, "quotient", quotient, wantQuotient)
		equal(t, "rest", rest, wantRest)
		if code != api.OK {
			t.Errorf("Divide: %d", code)
		}
	}
}

// P4.3: greatest common divisors.
func TestGcd(t *testing.T) {
	divides := func(d, p api.Poly) bool {
		_, rest, code := polynomial.Divide(p, d)
		return code == api.OK && len(rest) == 0
	}
	some(250, func(p, q api.Poly) {
		g := polynomial.Gcd(p, q)
		equal(t, "Gcd", g, refer(p).common(refer(q)))
		if polynomial.Degree(p) < 0 && polynomial.Degree(q) < 0 {
			if len(g) != 0 {
				t.Fatalf("Gcd(0, 0) = %s", text(g))
			}
			return
		}
		if !sameRat(g[len(g)-1], rat("1")) || !divides(g, p) || !divides(g, q) {
			t.Fatalf("Gcd(%s, %s) = %s", text(p), text(q), text(g))
		}
	})
	r := rand.New(rand.NewSource(7))
	for range 200 {
		common := given(rat("1"), fraction.Whole(r.Intn(9)-4), fraction.Whole(r.Intn(9)-4))
		p, q := polynomial.Mul(common, random(r, 5)), polynomial.Mul(common, random(r, 5))
		if len(p)+len(q) > 0 && !divides(common, polynomial.Gcd(p, q)) {
			t.Fatalf("%s does not divide Gcd(%s, %s)", text(common), text(p), text(q))
		}
	}
	for _, c := range [][3]string{{"", "", ""}, {"", "4", "1"}, {"6 -3", "", "-2 1"}, {"0 0 5", "0 7", "0 1"}, {"-2 1 1", "1 -2 1", "-1 1"}, {"1 1", "1 2", "1"}} {
		if g := polynomial.Gcd(poly(c[0]), poly(c[1])); text(g) != c[2] {
			t.Errorf("Gcd(%s; %s) = %s", c[0], c[1], text(g))
		}
	}
}

// P4.3: the part without multiple roots.
func TestSquarefree(t *testing.T) {
	some(100, func(p, q api.Poly) {
		equal(t, "Squarefree", polynomial.Squarefree(p), refer(p).squarefree())
		square := polynomial.Mul(p, p)
		if !same(polynomial.Squarefree(square), polynomial.Squarefree(p)) {
			t.Fatalf("Squarefree of the square of %s", text(p))
		}
	})
	for _, c := range [][2]string{{"", ""}, {"0", ""}, {"7", "1"}, {"-1/2", "1"}, {"1 -2 1", "-1 1"}, {"4 0 -8 0 4", "-1 0 1"}, {"0 0 0 -2", "0 1"}, {"3 6", "1/2 1"}, {"4 0 4 0 1", "2 0 1"}} {
		if s := polynomial.Squarefree(poly(c[0])); text(s) != c[1] {
			t.Errorf("Squarefree(%s) = %s", c[0], text(s))
		}
	}
}

// P4.4: the Sturm sequence, number by number.
func TestSturm(t *testing.T) {
	some(100, func(p, q api.Poly) {
		got, want := polynomial.Sturm(p), refer(p).sturm()
		if len(got) != len(want) {
			t.Fatalf("Sturm(%s) has %d elements, want %d", text(p), len(got), len(want))
		}
		for i := range got {
			equal(t, "Sturm", got[i], want[i])
		}
	})
	for _, c := range []struct {
		p    string
		want []string
	}{
		{"", nil},
		{"0 0", nil},
		{"-5", []string{"1"}},
		{"6 -2", []string{"-3 1", "1"}},
		{"1 -2 1", []string{"-1 1", "1"}},
		{"-2 0 1", []string{"-2 0 1", "0 2", "2"}},
		{"2 0 1", []string{"2 0 1", "0 2", "-2"}},
		{"0 -1 0 1", []string{"0 -1 0 1", "-1 0 3", "0 2/3", "1"}},
	} {
		var got []string
		for _, q := range polynomial.Sturm(poly(c.p)) {
			got = append(got, text(q))
		}
		if !slices.Equal(got, c.want) {
			t.Errorf("Sturm(%s) = %q", c.p, got)
		}
	}
}

// P4.4: the numbers of roots between all sorts of ends, roots among them.
func TestCount(t *testing.T) {
	some(60, func(p, q api.Poly) {
		a := refer(p)
		s := a.sturm()
		for i := -6; i <= 6; i += 2 {
			for k := i; k <= 6; k += 3 {
				got, code := polynomial.Count(p, fraction.Whole(i), fraction.Whole(k))
				if len(a) == 0 {
					if got != 0 || code != api.ErrSingular {
						t.Fatalf("Count of 0: %d, %d", got, code)
					}
				} else if want := countOf(s, big.NewRat(int64(i), 1), big.NewRat(int64(k), 1)); got != want || code != api.OK {
					t.Fatalf("Count(%s, %d, %d) = %d, %d, want %d", text(p), i, k, got, code, want)
				}
			}
		}
	})
	// The roots are -2, 0, 0, 1/2, 3; those of x^2 + 1 are not real.
	p := polynomial.Mul(given(rat("-7/3"), rat("-2"), rat("0"), rat("0"), rat("1/2"), rat("3")), poly("1 0 1"))
	roots := []string{"-2", "0", "1/2", "3"}
	ends := []string{"-9", "-2", "-1", "0", "1/4", "1/2", "2", "3", "7/2"}
	for i, low := range ends {
		for _, high := range ends[i:] {
			want := 0
			for _, x := range roots {
				if fraction.Compare(rat(low), rat(x)) < 0 && fraction.Compare(rat(x), rat(high)) <= 0 {
					want++
				}
			}
			if got, code := polynomial.Count(p, rat(low), rat(high)); got != want || code != api.OK {
				t.Errorf("Count from %s to %s: %d, %d, want %d", low, high, got, code, want)
			}
		}
	}
}

// P4.4: errors of Count, and ends that are not canonical.
func TestCountErrors(t *testing.T) {
	p := poly("0 -1 0 1")
	for _, c := range []struct {
		p         api.Poly
		low, high api.Rat
		n         int
		code      api.Code
	}{
		{nil, rat("1"), rat("0"), 0, api.ErrSingular},
		{poly("0 0"), rat("0"), rat("1"), 0, api.ErrSingular},
		{api.Poly{{}}, rat("0"), rat("1"), 0, api.ErrSingular},
		{p, rat("1"), rat("0"), 0, api.ErrOrder},
		{poly("7"), rat("1/2"), rat("1/3"), 0, api.ErrOrder},
		{poly("7"), rat("-9"), rat("9"), 0, api.OK},
		{p, rat("-1"), rat("1"), 2, api.OK},
		{p, rat("-2"), rat("1"), 3, api.OK},
		{p, rat("1"), rat("1"), 0, api.OK},
		{append(slices.Clone(p), rat("0"), api.Rat{}), rat("-1"), rat("1"), 2, api.OK},
	} {
		if n, code := polynomial.Count(c.p, c.low, c.high); n != c.n || code != c.code {
			t.Errorf("Count(%v, %v, %v) = %d, %d", c.p, c.low, c.high, n, code)
		}
	}
	for _, x := range notCanonical() {
		n, code := polynomial.Count(p, x, rat("1"))
		m, other := polynomial.Count(p, rat("-1"), x)
		_, order := polynomial.Count(p, rat("1"), x)
		if n != 1 || m != 1 || code != api.OK || other != api.OK || order != api.ErrOrder {
			t.Errorf("%v does not count as 0: %d, %d, %d, %d, %d", x, n, m, code, other, order)
		}
	}
}

// P4.5: bounds of the roots.
func TestBound(t *testing.T) {
	some(250, func(p, q api.Poly) {
		a := refer(p)
		got, code := polynomial.Bound(p)
		if len(a) == 0 {
			if code != api.ErrSingular || !sameRat(got, api.Rat{}) {
				t.Fatalf("Bound of 0: %v, %d", got, code)
			}
			return
		}
		if code != api.OK || !sameRat(got, ofBig(a.bound())) {
			t.Fatalf("Bound(%s) = %v, %d", text(p), got, code)
		}
		// All roots lie between: there are as many as in a greater interval, and the bound is none.
		n, _ := polynomial.Count(p, fraction.Neg(got), got)
		wide := fraction.Mul(got, fraction.Whole(1000))
		m, _ := polynomial.Count(p, fraction.Neg(wide), wide)
		if n != m || fraction.Sign(polynomial.Eval(p, got)) == 0 || fraction.Sign(polynomial.Eval(p, fraction.Neg(got))) == 0 {
			t.Fatalf("%s has roots outside of %s", text(p), fraction.Text(got))
		}
	})
	for _, c := range [][2]string{{"-2 1 1", "3"}, {"9", "1"}, {"0 0 -4", "1"}, {"0 3 -2", "5/2"}, {"5 0 0", "1"}} {
		if b, code := polynomial.Bound(poly(c[0])); fraction.Text(b) != c[1] || code != api.OK {
			t.Errorf("Bound(%s) = %s, %d", c[0], fraction.Text(b), code)
		}
	}
}

// P4.5: the intervals are those of the repeated halving, and contain one root each.
func TestIsolate(t *testing.T) {
	some(60, func(p, q api.Poly) {
		a := refer(p)
		got, code := polynomial.Isolate(p)
		if len(a) == 0 {
			if code != api.ErrSingular || len(got) != 0 {
				t.Fatalf("Isolate of 0: %s, %d", rootText(got...), code)
			}
			return
		}
		want := isolateOf(a.sturm(), new(big.Rat).Neg(a.bound()), a.bound())
		if code != api.OK || rootText(got...) != rootText(want...) {
			t.Fatalf("Isolate(%s) = %s, %d, want %s", text(p), rootText(got...), code, rootText(want...))
		}
		checkIsolated(t, p, got)
	})
	for _, c := range [][2]string{{"3", ""}, {"1 0 1", ""}, {"-2 0 1", "-3..0 0..3"}, {"1 -2 1", "-3..3"}, {"0 -1 0 1", "-2..-1 -1..0 0..2"}, {"0 1", "-1..1"}, {"0 0 0 0", "error"}} {
		got, code := polynomial.Isolate(poly(c[0]))
		if c[1] == "error" && code == api.ErrSingular && len(got) == 0 {
			continue
		}
		if rootText(got...) != c[1] || code != api.OK {
			t.Errorf("Isolate(%s) = %s, %d", c[0], rootText(got...), code)
		}
	}
}

// checkIsolated fails the test if intervals overlap, are not in order, do not contain one root each, or leave one out.
func checkIsolated(t *testing.T, p api.Poly, l []api.Root) {
	t.Helper()
	bound, _ := polynomial.Bound(p)
	if n, _ := polynomial.Count(p, fraction.Neg(bound), bound); n != len(l) {
		t.Fatalf("%s has %d roots, not %d", text(p), n, len(l))
	}
	for i, r := range l {
		n, code := polynomial.Count(p, r.Low, r.High)
		if n != 1 || code != api.OK || !fraction.Valid(r.Low) || !fraction.Valid(r.High) || fraction.Compare(r.Low, r.High) >= 0 {
			t.Fatalf("%s: %d roots in %s", text(p), n, rootText(r))
		}
		if i > 0 && fraction.Compare(l[i-1].High, r.Low) > 0 {
			t.Fatalf("%s: %s", text(p), rootText(l...))
		}
	}
}

// P4.5, P4.7: roots that lie near one another.
func TestIsolateNear(t *testing.T) {
	tiny := rat("1/1000000000000000000000000000000")
	roots := []api.Rat{fraction.Sub(rat("1/3"), tiny), rat("1/3"), fraction.Add(rat("1/3"), tiny), rat("100000000000")}
	got, code := polynomial.Isolate(given(rat("5/7"), roots...))
	if code != api.OK || len(got) != len(roots) {
		t.Fatalf("%s, %d", rootText(got...), code)
	}
	checkContained(t, got, roots)
}

// checkContained fails the test if a root does not lie in the interval with its number.
func checkContained(t *testing.T, l []api.Root, roots []api.Rat) {
	t.Helper()
	for i, x := range roots {
		if fraction.Compare(l[i].Low, x) >= 0 || fraction.Compare(x, l[i].High) > 0 {
			t.Errorf("%s is not in %s", fraction.Text(x), rootText(l[i]))
		}
	}
}

// P4.7: a polynomial with given roots, some of them multiple, has these and no others.
func TestGivenRoots(t *testing.T) {
	r := rand.New(rand.NewSource(8))
	for range 150 {
		var roots, all []api.Rat
		for range 1 + r.Intn(7) {
			x, _ := fraction.Of(r.Intn(61)-30, 1+r.Intn(6))
			if slices.ContainsFunc(roots, func(y api.Rat) bool { return sameRat(x, y) }) {
				continue
			}
			roots = append(roots, x)
			for range 1 + r.Intn(3) {
				all = append(all, x)
			}
		}
		slices.SortFunc(roots, fraction.Compare)
		// The other factor has no real root.
		p := polynomial.Mul(given(fraction.Whole(1+r.Intn(9)), all...), poly("3 1 1"))
		got, code := polynomial.Isolate(p)
		if code != api.OK || len(got) != len(roots) {
			t.Fatalf("%s: %s, %d", text(p), rootText(got...), code)
		}
		checkIsolated(t, p, got)
		checkContained(t, got, roots)
		for i, x := range roots {
			fine, code := polynomial.Refine(p, got[i], 12)
			isPoint := sameRat(fine.Low, fine.High)
			if code != api.OK || isPoint && !sameRat(fine.High, x) || !isPoint && (fraction.Compare(fine.Low, x) >= 0 || fraction.Compare(x, fine.High) >= 0) {
				t.Fatalf("%s is not in %s, %d", fraction.Text(x), rootText(fine), code)
			}
		}
	}
}

// P4.7: polynomials of a high degree: that of Wilkinson, and that of Chebyshev, whose roots are not rational.
func TestHighDegree(t *testing.T) {
	var roots []api.Rat
	for i := range 20 {
		roots = append(roots, fraction.Whole(i+1))
	}
	got, code := polynomial.Isolate(given(rat("1"), roots...))
	if code != api.OK || len(got) != 20 {
		t.Fatalf("%d intervals, %d", len(got), code)
	}
	checkContained(t, got, roots)
	last, p := poly("1"), poly("0 1")
	for range 23 {
		last, p = p, polynomial.Sub(polynomial.Mul(poly("0 2"), p), last)
	}
	l, code := polynomial.Isolate(p)
	if code != api.OK || len(l) != 24 {
		t.Fatalf("%d intervals, %d", len(l), code)
	}
	checkIsolated(t, p, l)
	for i, r := range l {
		fine, code := polynomial.Refine(p, r, 40)
		low, _ := bigOf(fine.Low).Float64()
		want := -math.Cos((2*float64(i) + 1) * math.Pi / 48)
		if code != api.OK || math.Abs(low-want) > 1e-9 {
			t.Errorf("root %d: %g, want %g, %d", i, low, want, code)
		}
	}
}

// P4.6: halvings, compared with those that the chapter describes.
func TestRefine(t *testing.T) {
	some(40, func(p, q api.Poly) {
		if polynomial.Degree(p) < 0 {
			return
		}
		s := refer(p).sturm()
		roots, _ := polynomial.Isolate(p)
		for _, r := range roots {
			for _, k := range []int{0, 1, 2, 3, 9} {
				got, code := polynomial.Refine(p, r, k)
				want := refineOf(s, bigOf(r.Low), bigOf(r.High), k)
				if code != api.OK || rootText(got) != rootText(want) {
					t.Fatalf("Refine(%s, %s, %d) = %s, %d, want %s", text(p), rootText(r), k, rootText(got), code, rootText(want))
				}
			}
			checkHalved(t, p, r, 200)
		}
	})
	for _, c := range []struct {
		p, low, high string
		k            int
		want         string
	}{
		{"-2 0 1", "0", "3", 1, "0..3/2"},
		{"1 -2 1", "-3", "3", 0, "-3..3"},
		{"1 -2 1", "-3", "3", 1, "0..3"},
		{"0 -1 0 1", "1/2", "1", 0, "1..1"},   // the upper end is the root
		{"0 -1 0 1", "1/2", "1", 200, "1..1"}, // and stays it
		{"0 -1 0 1", "0", "5", 0, "0..5"},     // the lower end is another root
		{"0 -1 0 1", "0", "5", 1, "0..5/2"},
		{"0 -1 0 1", "0", "2", 1, "1..1"}, // the middle is the root
		{"0 -1 0 1", "0", "2", 3, "1..1"},
		{"0 -1 0 1", "0", "4", 1, "0..2"},
		{"0 -1 0 1", "0", "4", 2, "1..1"},
		{"0 -1 0 1", "1", "1", 5, "1..1"}, // points
		{"0 -1 0 1", "0", "0", 0, "0..0"},
		{"1 2 1", "-1", "-1", 7, "-1..-1"},
		{"1 2 1", "-4", "0", 2, "-1..-1"}, // a double root, without change of sign
		{"1 2 1", "-4", "1", 2, "-3/2..-1/4"},
	} {
		got, code := polynomial.Refine(poly(c.p), api.Root{Low: rat(c.low), High: rat(c.high)}, c.k)
		if rootText(got) != c.want || code != api.OK {
			t.Errorf("Refine(%s, %s..%s, %d) = %s, %d", c.p, c.low, c.high, c.k, rootText(got), code)
		}
	}
}

// checkHalved fails the test if k halvings do not make an interval 2^k times shorter, or a root.
func checkHalved(t *testing.T, p api.Poly, r api.Root, k int) {
	t.Helper()
	fine, code := polynomial.Refine(p, r, k)
	if code != api.OK {
		t.Fatalf("Refine(%s, %s, %d): %d", text(p), rootText(r), k, code)
	}
	if sameRat(fine.Low, fine.High) {
		if fraction.Sign(polynomial.Eval(p, fine.Low)) != 0 {
			t.Fatalf("%s is no root of %s", fraction.Text(fine.Low), text(p))
		}
		return
	}
	width := fraction.Mul(fraction.Sub(fine.High, fine.Low), ofBig(new(big.Rat).SetInt(new(big.Int).Lsh(big.NewInt(1), uint(k)))))
	n, _ := polynomial.Count(p, fine.Low, fine.High)
	if n != 1 || !sameRat(width, fraction.Sub(r.High, r.Low)) {
		t.Fatalf("Refine(%s, %s, %d) = %s", text(p), rootText(r), k, rootText(fine))
	}
}

// P4.6: errors of Refine, the first one of several, and ends that are not canonical.
func TestRefineErrors(t *testing.T) {
	p, zero := poly("0 -1 0 1"), poly("0")
	for _, c := range []struct {
		p         api.Poly
		low, high string
		k         int
		code      api.Code
	}{
		{zero, "2", "1", -1, api.ErrSingular},
		{nil, "0", "0", 0, api.ErrSingular},
		{p, "2", "1", -1, api.ErrRange},
		{p, "2", "1", 201, api.ErrRange},
		{p, "1/2", "1", math.MinInt, api.ErrRange},
		{p, "1/2", "1", math.MaxInt, api.ErrRange},
		{p, "1", "1/2", 0, api.ErrOrder},
		{p, "2", "1", 200, api.ErrOrder},
		{poly("5"), "2", "1", 3, api.ErrOrder},
		{p, "-2", "2", 3, api.ErrMissing},
		{p, "-1", "1", 3, api.ErrMissing},
		{p, "1", "2", 3, api.ErrMissing},
		{p, "1/4", "1/2", 0, api.ErrMissing},
		{p, "2", "2", 0, api.ErrMissing},
		{poly("5"), "-1", "1", 0, api.ErrMissing},
		{poly("5"), "0", "0", 0, api.ErrMissing},
		{poly("1 0 1"), "-1", "1", 0, api.ErrMissing},
		{p, "1/2", "3", 0, api.OK},
		{p, "1/2", "3", 200, api.OK},
	} {
		got, code := polynomial.Refine(c.p, api.Root{Low: rat(c.low), High: rat(c.high)}, c.k)
		if code != c.code || code != api.OK && (!sameRat(got.Low, api.Rat{}) || !sameRat(got.High, api.Rat{})) {
			t.Errorf("Refine(%s, %s..%s, %d) = %v, %d", text(c.p), c.low, c.high, c.k, got, code)
		}
	}
	for _, x := range notCanonical() {
		low, code := polynomial.Refine(p, api.Root{Low: x, High: rat("3/2")}, 1)
		high, other := polynomial.Refine(p, api.Root{Low: rat("-1/2"), High: x}, 1)
		point, third := polynomial.Refine(p, api.Root{Low: x, High: x}, 1)
		if code != api.OK || other != api.OK || third != api.OK || rootText(low, high, point) != "3/4..3/2 0..0 0..0" {
			t.Errorf("%v does not count as 0: %s", x, rootText(low, high, point))
		}
	}
}

// The arguments stay as they are, and results are new memory, which they do not share with one another.
func TestNothingIsShared(t *testing.T) {
	some(40, func(p, q api.Poly) {
		before := fmt.Sprint(p, q)
		for _, call := range calls(p, q) {
			parts := call()
			for i, x := range parts {
				others := slices.Concat(parts[:i], parts[i+1:])
				saved := fmt.Sprint(others)
				spoil(x)
				if fmt.Sprint(others) != saved {
					t.Fatalf("parts of a result for %s and %s share memory", text(p), text(q))
				}
			}
			if fmt.Sprint(p, q) != before {
				t.Fatalf("%s or %s is changed", text(p), text(q))
			}
		}
	})
}

// calls are all functions with lists in their results, which return these as numbers.
func calls(p, q api.Poly) []func() []api.Rat {
	x := rat("-123456789012345678901/98765432109876543")
	return []func() []api.Rat{
		func() []api.Rat { return polynomial.Clean(p) },
		func() []api.Rat { return polynomial.Add(p, q) },
		func() []api.Rat { return polynomial.Sub(p, q) },
		func() []api.Rat { return polynomial.Mul(p, q) },
		func() []api.Rat { return polynomial.Scale(p, x) },
		func() []api.Rat { return []api.Rat{polynomial.Eval(p, x)} },
		func() []api.Rat { return polynomial.Derive(p) },
		func() []api.Rat { a, b, _ := polynomial.Divide(p, q); return append(a, b...) },
		func() []api.Rat { return polynomial.Gcd(p, q) },
		func() []api.Rat { return polynomial.Squarefree(p) },
		func() []api.Rat { return slices.Concat(polynomial.Sturm(p)...) },
		func() []api.Rat { b, _ := polynomial.Bound(p); return []api.Rat{b} },
		func() []api.Rat { l, _ := polynomial.Isolate(p); return endsOf(l...) },
		func() []api.Rat {
			l, _ := polynomial.Isolate(p)
			var refined []api.Root
			for _, r := range l {
				fine, _ := polynomial.Refine(p, r, 2)
				refined = append(refined, fine)
			}
			return append(endsOf(l...), endsOf(refined...)...)
		},
	}
}

// endsOf returns the ends of intervals.
func endsOf(l ...api.Root) []api.Rat {
	var ends []api.Rat
	for _, r := range l {
		ends = append(ends, r.Low, r.High)
	}
	return ends
}

// spoil overwrites the memory of a number.
func spoil(x api.Rat) {
	for _, groups := range [][]uint32{x.Num.Groups, x.Den.Groups} {
		for i := range groups {
			groups[i] = 987654321
		}
		_ = append(groups, 987654321)
	}
}
