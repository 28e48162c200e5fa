// Package integer is layer 1: see shared/doc/01-integer.md.
package integer

import (
	"cmp"
	"math/bits"

	"fiducial/api"
)

// Valid reports whether x is canonical.
func Valid(x api.Int) bool {
	n := len(x.Groups)
	if n == 0 {
		return !x.Negative
	}
	for _, g := range x.Groups {
		if g >= base {
			return false
		}
	}
	return x.Groups[n-1] != 0
}

// Of returns the integer n.
func Of(n int) api.Int {
	if n < 0 {
		// The conversion comes first: -n of the least int is not an int.
		return signed(true, ofNumber(-uint64(n)))
	}
	return signed(false, ofNumber(uint64(n)))
}

// Small returns x as an int, and whether it fits into 64 bits.
func Small(x api.Int) (int, bool) {
	x = counted(x)
	magnitude, ok := number(x.Groups)
	switch {
	case !ok:
		return 0, false
	case x.Negative && magnitude <= 1<<63:
		return int(-magnitude), true
	case !x.Negative && magnitude < 1<<63:
		return int(magnitude), true
	}
	return 0, false
}

// Sign returns -1, 0 or 1.
func Sign(x api.Int) int {
	x = counted(x)
	switch {
	case x.Negative:
		return -1
	case len(x.Groups) > 0:
		return 1
	}
	return 0
}

// Neg returns -x.
func Neg(x api.Int) api.Int {
	x = counted(x)
	return signed(!x.Negative, copied(x.Groups))
}

// Abs returns the magnitude of x.
func Abs(x api.Int) api.Int {
	return signed(false, copied(counted(x).Groups))
}

// Add returns x + y.
func Add(x, y api.Int) api.Int {
	x, y = counted(x), counted(y)
	return added(x, y.Negative, y.Groups)
}

// Sub returns x - y.
func Sub(x, y api.Int) api.Int {
	x, y = counted(x), counted(y)
	return added(x, !y.Negative, y.Groups)
}

// added returns the sum of x and the number with a sign and a magnitude.
func added(x api.Int, negative bool, groups []uint32) api.Int {
	if x.Negative == negative {
		return signed(negative, sum(x.Groups, groups))
	}
	if compareGroups(x.Groups, groups) < 0 {
		return signed(negative, difference(groups, x.Groups))
	}
	return signed(x.Negative, difference(x.Groups, groups))
}

// Mul returns x * y.
func Mul(x, y api.Int) api.Int {
	x, y = counted(x), counted(y)
	return signed(x.Negative != y.Negative, multiply(x.Groups, y.Groups))
}

// Divide returns the quotient of x by y rounded towards minus infinity, and the remainder.
func Divide(x, y api.Int) (q, r api.Int, code api.Code) {
	x, y = counted(x), counted(y)
	if len(y.Groups) == 0 {
		return api.Int{}, api.Int{}, api.ErrSingular
	}
	quotient, rest := divideGroups(x.Groups, y.Groups)
	opposite := x.Negative != y.Negative
	if opposite && len(rest) > 0 {
		quotient = sum(quotient, []uint32{1})
		rest = difference(y.Groups, rest)
	}
	return signed(opposite, quotient), signed(y.Negative, rest), api.OK
}

// Gcd returns the greatest common divisor of x and y.
func Gcd(x, y api.Int) api.Int {
	return signed(false, commonDivisor(counted(x).Groups, counted(y).Groups))
}

// Compare returns -1, 0 or 1: whether x is less than, equal to or greater than y.
func Compare(x, y api.Int) int {
	x, y = counted(x), counted(y)
	switch {
	case x.Negative && y.Negative:
		return compareGroups(y.Groups, x.Groups)
	case x.Negative:
		return -1
	case y.Negative:
		return 1
	}
	return compareGroups(x.Groups, y.Groups)
}

// Power returns x to the power n.
func Power(x api.Int, n int) (api.Int, api.Code) {
	x = counted(x)
	if n < 0 || n > 4096 {
		return api.Int{}, api.ErrRange
	}
	if n*digits(x.Groups) > 20000 {
		return api.Int{}, api.ErrLong
	}
	return signed(x.Negative && n%2 == 1, power(x.Groups, n)), api.OK
}

// Root returns the greatest integer whose square is at most x.
func Root(x api.Int) (api.Int, api.Code) {
	x = counted(x)
	if x.Negative {
		return api.Int{}, api.ErrRange
	}
	return signed(false, squareRoot(x.Groups)), api.OK
}

// Log returns the greatest k for which 2 to the power k is at most the magnitude of x, -1 for 0.
func Log(x api.Int) int {
	groups := counted(x).Groups
	if n, ok := number(groups); ok {
		return bits.Len64(n) - 1
	}
	return logarithm(groups)
}

// counted returns the integer that x counts as: x itself, which is not copied, or 0.
func counted(x api.Int) api.Int {
	if Valid(x) {
		return x
	}
	return api.Int{}
}

// signed returns the canonical integer with a sign and a magnitude; it keeps the list.
func signed(negative bool, groups []uint32) api.Int {
	groups = trimmed(groups)
	n := len(groups)
	if n == 0 {
		return api.Int{}
	}
	// The capacity is limited, so that no append of a caller writes where groups have been cut off.
	return api.Int{Negative: negative, Groups: groups[:n:n]}
}

// compareGroups compares two magnitudes.
func compareGroups(a, b []uint32) int {
	if len(a) != len(b) {
		return cmp.Compare(len(a), len(b))
	}
	for i, g := range backwards(a) {
		if g != b[i] {
			return cmp.Compare(g, b[i])
		}
	}
	return 0
}
