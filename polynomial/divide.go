package polynomial

import (
	"fiducial/api"
	"fiducial/fraction"
	"fiducial/whole"
)

// listOf returns the canonical form of a polynomial as a list of integers with a factor.
func listOf(p api.Poly) whole.List {
	return whole.Of(Clean(p))
}

// monic returns a polynomial divided by its leading coefficient.
func monic(p whole.List) api.Poly {
	n := len(p.Items)
	if n == 0 {
		return nil
	}
	return whole.Over(p.Items, p.Items[n-1]).Rats()
}

// Divide returns quotient and rest of p by q.
func Divide(p, q api.Poly) (api.Poly, api.Poly, api.Code) {
	a, b := listOf(p), listOf(q)
	switch len(b.Items) {
	case 0:
		return nil, nil, api.ErrSingular
	case 1:
		inverse, _ := fraction.Divide(fraction.Whole(1), q[0])
		return Scale(p, inverse), nil, api.OK
	}
	quotient, rest := whole.Divide(a.Items, b.Items)
	ratio, _ := fraction.Divide(a.Factor, b.Factor)
	rest.Factor = fraction.Mul(rest.Factor, a.Factor)
	return Scale(quotient, ratio), rest.Rats(), api.OK
}

// Gcd returns the greatest common divisor of p and q with the leading coefficient 1.
func Gcd(p, q api.Poly) api.Poly {
	a, b := listOf(p), listOf(q)
	for len(b.Items) > 0 {
		_, rest := whole.Divide(a.Items, b.Items)
		a, b = b, rest
	}
	return monic(a)
}

// Squarefree returns the polynomial with the leading coefficient 1 and the same roots as p, each once.
func Squarefree(p api.Poly) api.Poly {
	// The divisor is zero only if p is.
	quotient, _, _ := Divide(p, Gcd(p, Derive(p)))
	return monic(listOf(quotient))
}
