package fraction

import (
	"cmp"

	"fiducial/api"
	"fiducial/integer"
)

// short is a fraction with so small parts that products and sums of two products fit into an int: most fractions have, and this is several times faster.
type short struct{ num, den int }

// limit is what the parts of a short fraction are below in magnitude.
const limit = 1 << 31

// shortOf returns x, whose parts are canonical, as a short fraction, and whether it is one.
func shortOf(x api.Rat) (short, bool) {
	num, numFits := integer.Small(x.Num)
	den, denFits := integer.Small(x.Den)
	if !numFits || !denFits || num <= -limit || num >= limit || den >= limit {
		return short{}, false
	}
	return short{num, den}, true
}

// bothShort returns x and y as short fractions, and whether they both are.
func bothShort(x, y api.Rat) (a, b short, ok bool) {
	if a, ok = shortOf(x); ok {
		b, ok = shortOf(y)
	}
	return a, b, ok
}

// divisor returns the greatest common divisor of x and y, which is above 0.
func divisor(x, y int) int {
	if x < 0 {
		x = -x
	}
	for x != 0 {
		x, y = y%x, x
	}
	return y
}

// reduced returns the fraction in lowest terms.
func (a short) reduced() api.Rat {
	g := divisor(a.num, a.den)
	return api.Rat{Num: integer.Of(a.num / g), Den: integer.Of(a.den / g)}
}

// plus returns a + b, which need not be short or in lowest terms.
func (a short) plus(b short) short {
	return short{a.num*b.den + b.num*a.den, a.den * b.den}
}

// times returns a b, which need not be short or in lowest terms.
func (a short) times(b short) short {
	return short{a.num * b.num, a.den * b.den}
}

// compare returns -1, 0 or 1.
func (a short) compare(b short) int {
	return cmp.Compare(a.num*b.den, b.num*a.den)
}
