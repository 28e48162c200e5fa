package fraction

import (
	"slices"

	"fiducial/api"
	"fiducial/integer"
)

// The functions of this file take fractions that are canonical.

// counted returns the fraction that any x counts as: x itself, which is not copied, or 0.
func counted(x api.Rat) api.Rat {
	if Valid(x) {
		return x
	}
	return whole(api.Int{})
}

// copied returns a copy of x.
func copied(x api.Rat) api.Rat {
	return api.Rat{Num: copiedInt(x.Num), Den: copiedInt(x.Den)}
}

// copiedInt returns a copy of x.
func copiedInt(x api.Int) api.Int {
	return api.Int{Negative: x.Negative, Groups: slices.Clone(x.Groups)}
}

// whole returns the fraction n/1; it keeps n.
func whole(n api.Int) api.Rat {
	return api.Rat{Num: n, Den: integer.Of(1)}
}

// isOne reports whether x is 1.
func isOne(x api.Int) bool {
	return !x.Negative && len(x.Groups) == 1 && x.Groups[0] == 1
}

// reduced returns num/den in lowest terms; den is above 0.
func reduced(num, den api.Int) api.Rat {
	num, den = coprime(num, den)
	return api.Rat{Num: copiedInt(num), Den: copiedInt(den)}
}

// coprime returns x and y, which is above 0, without their greatest common divisor. Numbers that have none above 1 are not copied.
func coprime(x, y api.Int) (api.Int, api.Int) {
	if isOne(x) || isOne(y) {
		return x, y
	}
	g := integer.Gcd(x, y)
	if isOne(g) {
		return x, y
	}
	return floorOf(x, g), floorOf(y, g)
}

// negative returns -x.
func negative(x api.Rat) api.Rat {
	return api.Rat{Num: integer.Neg(x.Num), Den: copiedInt(x.Den)}
}

// add returns x + y.
func add(x, y api.Rat) api.Rat {
	if a, b, ok := bothShort(x, y); ok {
		return a.plus(b).reduced()
	}
	if isOne(x.Den) && isOne(y.Den) {
		return whole(integer.Add(x.Num, y.Num))
	}
	g := integer.Gcd(x.Den, y.Den)
	if isOne(g) {
		return api.Rat{Num: crossSum(x, y.Den, y, x.Den), Den: integer.Mul(x.Den, y.Den)}
	}
	// All that the sum and its denominator can have in common divides what the two denominators have in common.
	left, right := floorOf(x.Den, g), floorOf(y.Den, g)
	num, common := coprime(crossSum(x, right, y, left), g)
	return api.Rat{Num: num, Den: integer.Mul(integer.Mul(left, right), common)}
}

// crossSum returns the sum of the numerators of x and y, multiplied by a and b.
func crossSum(x api.Rat, a api.Int, y api.Rat, b api.Int) api.Int {
	return integer.Add(integer.Mul(x.Num, a), integer.Mul(y.Num, b))
}

// multiply returns x y.
func multiply(x, y api.Rat) api.Rat {
	if a, b, ok := bothShort(x, y); ok {
		return a.times(b).reduced()
	}
	a, d := coprime(x.Num, y.Den)
	b, c := coprime(y.Num, x.Den)
	return api.Rat{Num: integer.Mul(a, b), Den: integer.Mul(c, d)}
}

// compare returns -1, 0 or 1.
func compare(x, y api.Rat) int {
	if a, b, ok := bothShort(x, y); ok {
		return a.compare(b)
	}
	return integer.Compare(integer.Mul(x.Num, y.Den), integer.Mul(y.Num, x.Den))
}
