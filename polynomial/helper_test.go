package polynomial_test

import (
	"math/big"
	"math/rand"
	"slices"
	"strings"
	"testing"

	"fiducial/api"
	"fiducial/fraction"
	"fiducial/integer"
	"fiducial/polynomial"
)

// rat is the fraction with a text.
func rat(s string) api.Rat {
	z, ok := new(big.Rat).SetString(s)
	if !ok {
		panic(s + " is no fraction")
	}
	return ofBig(z)
}

// poly is the polynomial with the texts of its coefficients, separated by spaces.
func poly(s string) api.Poly {
	var p api.Poly
	for _, c := range strings.Fields(s) {
		p = append(p, rat(c))
	}
	return p
}

// bigOf is the value of x, which is canonical.
func bigOf(x api.Rat) *big.Rat {
	num, _ := new(big.Int).SetString(integer.Text(x.Num), 10)
	den, _ := new(big.Int).SetString(integer.Text(x.Den), 10)
	return new(big.Rat).SetFrac(num, den)
}

// ofBig is the canonical fraction with the value of z.
func ofBig(z *big.Rat) api.Rat {
	return api.Rat{Num: ofInt(z.Num()), Den: ofInt(z.Denom())}
}

// ofInt is the canonical integer with the value of z.
func ofInt(z *big.Int) api.Int {
	x := api.Int{Negative: z.Sign() < 0}
	rest, group, billion := new(big.Int).Abs(z), new(big.Int), big.NewInt(1_000_000_000)
	for rest.Sign() > 0 {
		rest.QuoRem(rest, billion, group)
		x.Groups = append(x.Groups, uint32(group.Int64()))
	}
	return x
}

// text has the texts of the coefficients.
func text(p api.Poly) string {
	var s []string
	for _, c := range p {
		s = append(s, fraction.Text(c))
	}
	return strings.Join(s, " ")
}

// rootText has the texts of the ends of some intervals.
func rootText(l ...api.Root) string {
	var s []string
	for _, r := range l {
		s = append(s, fraction.Text(r.Low)+".."+fraction.Text(r.High))
	}
	return strings.Join(s, " ")
}

// sameRat reports whether x and y have the same form.
func sameRat(x, y api.Rat) bool {
	return x.Num.Negative == y.Num.Negative && slices.Equal(x.Num.Groups, y.Num.Groups) && x.Den.Negative == y.Den.Negative && slices.Equal(x.Den.Groups, y.Den.Groups)
}

// same reports whether p and q have the same form.
func same(p, q api.Poly) bool {
	return slices.EqualFunc(p, q, sameRat)
}

// equal fails the test if got is not the canonical form of want.
func equal(t *testing.T, what string, got api.Poly, want reference) {
	t.Helper()
	if w := want.poly(); !same(got, w) {
		t.Fatalf("%s = %s, want %s", what, text(got), text(w))
	}
}

// notCanonical are values that are no fractions, and count as 0.
func notCanonical() []api.Rat {
	return []api.Rat{
		{},
		{Num: integer.Of(1)},
		{Num: integer.Of(2), Den: integer.Of(6)},
		{Num: integer.Of(1), Den: integer.Of(-1)},
		{Num: api.Int{Groups: []uint32{5, 0}}, Den: integer.Of(1)},
		{Num: api.Int{Groups: []uint32{1_000_000_000}}, Den: integer.Of(1)},
		{Num: api.Int{Negative: true}, Den: integer.Of(1)},
	}
}

// random returns a polynomial of at most so many coefficients, not always canonical; some have coefficients that are long, or 0.
func random(r *rand.Rand, most int) api.Poly {
	p := make(api.Poly, r.Intn(most+1))
	size, den := 1+r.Intn(20), 1+r.Intn(9)
	if r.Intn(4) == 0 {
		size, den = 1<<55, 1<<40
	}
	for i := range p {
		p[i], _ = fraction.Of(r.Intn(2*size+1)-size, 1+r.Intn(den))
		switch r.Intn(12) {
		case 0:
			p[i] = fraction.Whole(0)
		case 1:
			p[i] = notCanonical()[r.Intn(7)]
		}
	}
	return p
}

// some calls check with pairs of polynomials, some of which have common divisors or multiple roots.
func some(rounds int, check func(p, q api.Poly)) {
	r := rand.New(rand.NewSource(4))
	for range rounds {
		p, q, c := random(r, 7), random(r, 5), random(r, 4)
		check(p, q)
		check(q, p)
		check(polynomial.Mul(p, c), polynomial.Mul(q, c))
		check(polynomial.Mul(polynomial.Mul(p, q), q), polynomial.Mul(q, c))
	}
	ends := []api.Poly{nil, {}, poly("0"), poly("0 0"), poly("1"), poly("-1/2"), poly("0 1"), poly("3 0 0"), poly("2 -3"), poly("-2 0 1"), {{}}, {rat("7"), {}}}
	for _, p := range ends {
		for _, q := range ends {
			check(p, q)
		}
	}
}

// given returns the polynomial with these roots, and the leading coefficient lead.
func given(lead api.Rat, roots ...api.Rat) api.Poly {
	p := api.Poly{lead}
	for _, x := range roots {
		p = polynomial.Mul(p, api.Poly{fraction.Neg(x), fraction.Whole(1)})
	}
	return p
}

// reference is a polynomial without zeros at the end, in the numbers of math/big.
type reference []*big.Rat

// refer returns what p counts as.
func refer(p api.Poly) reference {
	var r reference
	for _, c := range p {
		r = append(r, bigOf(fraction.Value(c)))
	}
	return r.trimmed()
}

func (p reference) trimmed() reference {
	for len(p) > 0 && p[len(p)-1].Sign() == 0 {
		p = p[:len(p)-1]
	}
	return p
}

func (p reference) poly() api.Poly {
	var r api.Poly
	for _, c := range p {
		r = append(r, ofBig(c))
	}
	return r
}

// plus returns p + x q.
func (p reference) plus(x *big.Rat, q reference) reference {
	r := make(reference, max(len(p), len(q)))
	for i := range r {
		r[i] = new(big.Rat)
		if i < len(p) {
			r[i].Set(p[i])
		}
		if i < len(q) {
			r[i].Add(r[i], new(big.Rat).Mul(x, q[i]))
		}
	}
	return r.trimmed()
}

// shifted returns p times the power n of the variable.
func (p reference) shifted(n int) reference {
	var r reference
	for range n {
		r = append(r, new(big.Rat))
	}
	return append(r, p...).trimmed()
}

func (p reference) times(q reference) reference {
	var r reference
	for i, c := range p {
		r = r.plus(c, q.shifted(i))
	}
	return r
}

func (p reference) at(x *big.Rat) *big.Rat {
	sum := new(big.Rat)
	for i := len(p) - 1; i >= 0; i-- {
		sum.Mul(sum, x)
		sum.Add(sum, p[i])
	}
	return sum
}

func (p reference) derivative() reference {
	var r reference
	for i := 1; i < len(p); i++ {
		r = append(r, new(big.Rat).Mul(p[i], big.NewRat(int64(i), 1)))
	}
	return r
}

// divide is the long division by q, which is not zero.
func (p reference) divide(q reference) (quotient, rest reference) {
	rest = p
	for len(rest) >= len(q) {
		x := new(big.Rat).Quo(rest[len(rest)-1], q[len(q)-1])
		n := len(rest) - len(q)
		quotient = quotient.plus(x, reference{big.NewRat(1, 1)}.shifted(n))
		rest = rest.plus(new(big.Rat).Neg(x), q.shifted(n))
	}
	return quotient, rest
}

func (p reference) monic() reference {
	if len(p) == 0 {
		return nil
	}
	return reference(nil).plus(new(big.Rat).Inv(p[len(p)-1]), p)
}

func (p reference) common(q reference) reference {
	for len(q) > 0 {
		_, rest := p.divide(q)
		p, q = q, rest
	}
	return p.monic()
}

func (p reference) squarefree() reference {
	if len(p) == 0 {
		return nil
	}
	quotient, _ := p.divide(p.common(p.derivative()))
	return quotient.monic()
}

func (p reference) sturm() []reference {
	if len(p) == 0 {
		return nil
	}
	s := []reference{p.squarefree()}
	for next := s[0].derivative(); len(next) > 0; {
		last := s[len(s)-1]
		s = append(s, next)
		_, rest := last.divide(next)
		next = reference(nil).plus(big.NewRat(-1, 1), rest)
	}
	return s
}

// variationsAt counts the changes of sign of a Sturm sequence.
func variationsAt(s []reference, x *big.Rat) int {
	var signs []int
	for _, p := range s {
		if sign := p.at(x).Sign(); sign != 0 {
			signs = append(signs, sign)
		}
	}
	changes := 0
	for i := range signs {
		if i > 0 && signs[i] != signs[i-1] {
			changes++
		}
	}
	return changes
}

// countOf counts the roots of the first element of a Sturm sequence.
func countOf(s []reference, low, high *big.Rat) int {
	return variationsAt(s, low) - variationsAt(s, high)
}

func (p reference) bound() *big.Rat {
	greatest := new(big.Rat)
	for _, c := range p[:len(p)-1] {
		x := new(big.Rat).Quo(c, p[len(p)-1])
		if x.Abs(x).Cmp(greatest) > 0 {
			greatest = x
		}
	}
	return new(big.Rat).Add(greatest, big.NewRat(1, 1))
}

func middle(low, high *big.Rat) *big.Rat {
	sum := new(big.Rat).Add(low, high)
	return sum.Quo(sum, big.NewRat(2, 1))
}

// isolateOf makes the intervals as the chapter says, from the Sturm sequence.
func isolateOf(s []reference, low, high *big.Rat) []api.Root {
	switch countOf(s, low, high) {
	case 0:
		return nil
	case 1:
		return []api.Root{{Low: ofBig(low), High: ofBig(high)}}
	}
	m := middle(low, high)
	return append(isolateOf(s, low, m), isolateOf(s, m, high)...)
}

// refineOf halves an interval as the chapter says, with the Sturm sequence.
func refineOf(s []reference, low, high *big.Rat, k int) api.Root {
	for range k {
		if m := middle(low, high); countOf(s, low, m) == 1 {
			high = m
		} else {
			low = m
		}
	}
	if s[0].at(high).Sign() == 0 {
		low = high
	}
	return api.Root{Low: ofBig(low), High: ofBig(high)}
}
