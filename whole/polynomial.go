package whole

import (
	"fiducial/api"
	"fiducial/fraction"
	"fiducial/integer"
)

// In this file a list has the coefficients of a polynomial, that of the power i at the index i; the last one is not 0.

// Product returns the product of two polynomials.
func Product(p, q List) List {
	if len(p.Items) == 0 || len(q.Items) == 0 {
		return Of(nil)
	}
	items := make([]api.Int, len(p.Items)+len(q.Items)-1)
	for i, a := range p.Items {
		for k, b := range q.Items {
			items[i+k] = integer.Add(items[i+k], integer.Mul(a, b))
		}
	}
	// Products of integers without a common divisor have none.
	return List{fraction.Mul(p.Factor, q.Factor), items}
}

// Divide returns the quotient and the rest of p by q, which is not zero.
func Divide(p, q []api.Int) (quotient []api.Rat, rest List) {
	factor := integer.Of(1)
	degree := len(q) - 1
	if len(p) <= degree {
		return nil, Over(p, factor)
	}
	quotient = make([]api.Rat, len(p)-degree)
	lead := q[degree]
	// The leading coefficients of what is left of p, as many as q has, multiplied by the factor; the others are still those of p.
	window := make([]api.Int, len(q))
	copy(window[1:], p[len(quotient):])
	for k := range quotient {
		i := len(quotient) - 1 - k
		window[0] = integer.Mul(factor, p[i])
		quotient[i], _ = fraction.New(window[degree], integer.Mul(factor, lead))
		a, b := coprime(lead, window[degree])
		copy(window[1:], combine(a, window[:degree], b, q[:degree]))
		factor = integer.Mul(factor, a)
	}
	return quotient, Over(trimmed(window[1:]), factor)
}

// trimmed cuts off the coefficients at the end that are 0.
func trimmed(p []api.Int) []api.Int {
	n := len(p)
	for n > 0 && isZero(p[n-1]) {
		n--
	}
	return p[:n:n]
}

// Value returns the value of a polynomial at x.
func Value(p List, x api.Rat) api.Rat {
	sum, power := homogeneous(p.Items, x)
	value, _ := fraction.New(sum, power)
	return fraction.Mul(p.Factor, value)
}

// Sign returns the sign of the value of a polynomial at x.
func Sign(p List, x api.Rat) int {
	sum, _ := homogeneous(p.Items, x)
	return integer.Sign(sum)
}

// homogeneous returns the value of a polynomial at x, multiplied by a power of the denominator of x, and this power.
func homogeneous(p []api.Int, x api.Rat) (sum, power api.Int) {
	power = integer.Of(1)
	for k := range p {
		if k > 0 {
			sum = integer.Mul(sum, x.Num)
			power = integer.Mul(power, x.Den)
		}
		sum = integer.Add(sum, integer.Mul(p[len(p)-1-k], power))
	}
	return sum, power
}
