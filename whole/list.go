// Package whole has lists of fractions in the form of integers with a common factor: elimination and the division of polynomials calculate with these integers, because fractions would have to be reduced at every step. It is no layer; layers 4 and 5 use it. All integers and fractions are canonical. Lists are never changed, so that results may share memory with arguments.
package whole

import (
	"fiducial/api"
	"fiducial/fraction"
	"fiducial/integer"
)

// List is a list of fractions: Factor, which is above 0, times integers without a common divisor above 1.
type List struct {
	Factor api.Rat
	Items  []api.Int
}

// Of returns the list of some fractions.
func Of(l []api.Rat) List {
	items, denominator := cleared(l)
	return Over(items, denominator)
}

// Over returns the list of the quotients of some integers by d, which is not 0.
func Over(items []api.Int, d api.Int) List {
	items, divisor := primitive(items)
	if d.Negative {
		items, d = negative(items), integer.Neg(d)
	}
	factor, _ := fraction.New(divisor, d)
	return List{factor, items}
}

// Negative returns the negatives of the elements of a list.
func Negative(l List) List {
	return List{l.Factor, negative(l.Items)}
}

// At returns the element i, in new memory.
func (l List) At(i int) api.Rat {
	return times(l.Factor, l.Items[i])
}

// Rats returns the elements, in new memory.
func (l List) Rats() []api.Rat {
	list := make([]api.Rat, len(l.Items))
	for i := range list {
		list[i] = l.At(i)
	}
	return list
}

// times returns the product of a fraction and an integer.
func times(factor api.Rat, x api.Int) api.Rat {
	// All that the product and its denominator can have in common, the integer and the denominator have.
	x, denominator := coprime(x, factor.Den)
	return api.Rat{Num: integer.Mul(factor.Num, x), Den: integer.Abs(denominator)}
}

// Dot returns the sum of the products of the elements of two lists of the same length.
func Dot(x, y List) api.Rat {
	var sum api.Int
	for i, a := range x.Items {
		if !isZero(a) && !isZero(y.Items[i]) {
			sum = integer.Add(sum, integer.Mul(a, y.Items[i]))
		}
	}
	return times(fraction.Mul(x.Factor, y.Factor), sum)
}

// cleared returns some fractions multiplied by their least common denominator, and this denominator.
func cleared(l []api.Rat) ([]api.Int, api.Int) {
	common := integer.Of(1)
	for _, x := range l {
		_, missing := coprime(common, x.Den)
		common = integer.Mul(common, missing)
	}
	list := make([]api.Int, len(l))
	for i, x := range l {
		list[i] = integer.Mul(x.Num, quotient(common, x.Den))
	}
	return list, common
}

// primitive returns a list without the greatest common divisor of its elements, and this divisor: 1 if all elements are 0.
func primitive(l []api.Int) ([]api.Int, api.Int) {
	g := shortest(l)
	list := make([]api.Int, len(l))
	for i, x := range l {
		if isOne(g) {
			return l, g
		}
		q, rest, _ := integer.Divide(x, g)
		if !isZero(rest) {
			old := g
			g = integer.Gcd(g, rest)
			q = quotient(x, g)
			multiply(list[:i], quotient(old, g))
		}
		list[i] = q
	}
	return list, g
}

// shortest returns the magnitude of a number with the fewest groups of those in a list that are not 0, and 1 if there are none: it is the nearest to the divisors of the list.
func shortest(l []api.Int) api.Int {
	var best api.Int
	for _, x := range l {
		if !isZero(x) && (isZero(best) || len(x.Groups) < len(best.Groups)) {
			best = x
		}
	}
	if isZero(best) {
		return integer.Of(1)
	}
	return integer.Abs(best)
}

// multiply multiplies the elements of a list by x.
func multiply(l []api.Int, x api.Int) {
	for i := range l {
		l[i] = integer.Mul(l[i], x)
	}
}

// negative returns the negatives of the elements of a list.
func negative(l []api.Int) []api.Int {
	list := make([]api.Int, len(l))
	for i, x := range l {
		list[i] = integer.Neg(x)
	}
	return list
}

// combine returns a x - b y, for lists x and y of the same length.
func combine(a api.Int, x []api.Int, b api.Int, y []api.Int) []api.Int {
	list := make([]api.Int, len(x))
	for i := range list {
		list[i] = integer.Sub(integer.Mul(a, x[i]), integer.Mul(b, y[i]))
	}
	return list
}

// coprime returns a and b, one of which is not 0, without their greatest common divisor.
func coprime(a, b api.Int) (api.Int, api.Int) {
	if isOne(a) || isOne(b) {
		return a, b
	}
	g := integer.Gcd(a, b)
	return quotient(a, g), quotient(b, g)
}

// quotient returns a / d, which is an integer.
func quotient(a, d api.Int) api.Int {
	if isOne(d) {
		return a
	}
	q, _, _ := integer.Divide(a, d)
	return q
}

// isOne reports whether x is 1.
func isOne(x api.Int) bool {
	return !x.Negative && len(x.Groups) == 1 && x.Groups[0] == 1
}

// isZero reports whether x is 0.
func isZero(x api.Int) bool {
	return len(x.Groups) == 0
}
