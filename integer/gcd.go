package integer

import "math/bits"

// commonDivisor returns the greatest common divisor of a and b.
func commonDivisor(a, b []uint32) []uint32 {
	if compareGroups(a, b) < 0 {
		a, b = b, a
	}
	if x, ok := number(a); ok {
		y, _ := number(b)
		return ofNumber(commonNumber(x, y))
	}
	return commonLong(copied(a), copied(b))
}

// commonLong returns the greatest common divisor of a and b, which is not above a; it changes both.
func commonLong(a, b []uint32) []uint32 {
	for len(b) > 2 {
		if euclid(leading(a, b)).apply(a, b) {
			a, b = trimmed(a[:len(b)]), trimmed(b)
			continue
		}
		_, rest := divideGroups(a, b)
		a, b = b, rest
	}
	if len(b) == 0 {
		return a
	}
	_, rest := divideGroups(a, b)
	return commonDivisor(b, rest)
}

// commonNumber returns the greatest common divisor of x and y.
func commonNumber(x, y uint64) uint64 {
	for y != 0 {
		x, y = y, x%y
	}
	return x
}

// leading returns numbers x and y of 64 bits: a and b, which is not above a, divided by the same number and rounded down. The magnitude a has at least three groups.
func leading(a, b []uint32) (x, y uint64) {
	n := len(a)
	highX, lowX := firstGroups(a, n)
	highY, lowY := firstGroups(b, n)
	shift := bits.Len64(highX)
	return highX<<(64-shift) | lowX>>shift, highY<<(64-shift) | lowY>>shift
}

// firstGroups returns the groups of a with the indices n - 3 to n - 1 as a number of 128 bits.
func firstGroups(a []uint32, n int) (high, low uint64) {
	var groups [3]uint64
	for i := range groups {
		if k := n - 3 + i; k < len(a) {
			groups[i] = uint64(a[k])
		}
	}
	high, low = bits.Mul64(groups[2]*base+groups[1], base)
	low, carry := bits.Add64(low, groups[0], 0)
	return high + carry, low
}

// steps are some steps of Euclid's algorithm: they replace a by aa a + ab b, and b by ba a + bb b.
type steps struct{ aa, ab, ba, bb int64 }

// euclid returns the steps that Euclid's algorithm takes for all pairs of numbers that begin with x and y (Lehmer's method, with the condition of Collins). Their factors are below 2^32.
func euclid(x, y uint64) steps {
	var u0, u1, u2 uint64 = 0, 1, 0
	var v0, v1, v2 uint64 = 0, 0, 1
	even := false
	for y >= v2 && x-y >= v1+v2 {
		q := x / y
		x, y = y, x-q*y
		u0, u1, u2 = u1, u2, u1+q*u2
		v0, v1, v2 = v1, v2, v1+q*v2
		even = !even
	}
	s := steps{int64(u0), int64(v0), int64(u1), int64(v1)}
	if even {
		s.ab, s.ba = -s.ab, -s.ba
	} else {
		s.aa, s.bb = -s.aa, -s.bb
	}
	return s
}

// apply takes the steps, and reports whether there were any. The new numbers are at most the old b, so that only as many groups of a have a meaning then, and need be looked at before.
func (s steps) apply(a, b []uint32) bool {
	if s.ab == 0 {
		return false
	}
	var carryA, carryB int64
	for i := range b {
		x, y := int64(a[i]), int64(b[i])
		carryA, a[i] = divideByBase(s.aa*x + s.ab*y + carryA)
		carryB, b[i] = divideByBase(s.ba*x + s.bb*y + carryB)
	}
	return true
}
