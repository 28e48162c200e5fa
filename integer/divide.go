package integer

import "math/bits"

// divideGroups returns the quotient of a by b, which is not 0, and the rest.
func divideGroups(a, b []uint32) (quotient, rest []uint32) {
	switch {
	case compareGroups(a, b) < 0:
		return nil, copied(a)
	case len(b) == 1:
		q, r := divideShort(a, uint64(b[0]))
		return q, ofNumber(r)
	}
	return divideLong(a, b)
}

// divideShort returns the quotient of a by a single group, and the rest.
func divideShort(a []uint32, d uint64) ([]uint32, uint64) {
	q := make([]uint32, len(a))
	var rest uint64
	for i, g := range backwards(a) {
		rest = rest*base + uint64(g)
		q[i] = uint32(rest / d)
		rest %= d
	}
	return trimmed(q), rest
}

// divideLong returns the quotient of a by b, which has at least two groups and is not longer than a, and the rest.
func divideLong(a, b []uint32) (quotient, rest []uint32) {
	n := len(b)
	lead := uint64(b[n-1])*base + uint64(b[n-2])
	rest = make([]uint32, len(a)+1)
	copy(rest, a)
	quotient = make([]uint32, len(a)-n+1)
	for j := range backwards(quotient) {
		quotient[j] = reduce(rest[j:j+n+1], b, lead)
	}
	return trimmed(quotient), trimmed(rest)
}

// reduce replaces part, which is below b * base and one group longer than b, by its rest of the division by b, and returns the quotient. The number lead has the first two groups of b.
func reduce(part, b []uint32, lead uint64) uint32 {
	n := len(b)
	digit := estimate(part[n-2:], lead)
	var carry int64
	for i, g := range b {
		carry, part[i] = divideByBase(int64(part[i]) - digit*int64(g) + carry)
	}
	// The estimate may be too great by one or two; then the rest is below 0.
	for carry += int64(part[n]); carry < 0; digit-- {
		carry += int64(addTo(part[:n], b))
	}
	part[n] = 0
	return uint32(digit)
}

// estimate returns the quotient of three groups by a number from base to base^2, which is at most base - 1.
func estimate(groups []uint32, lead uint64) int64 {
	high, low := bits.Mul64(uint64(groups[2])*base+uint64(groups[1]), base)
	low, carry := bits.Add64(low, uint64(groups[0]), 0)
	q, _ := bits.Div64(high+carry, low, lead)
	return int64(min(q, base-1))
}

// divideByBase returns the quotient of n by base, rounded down, and the rest.
func divideByBase(n int64) (int64, uint32) {
	q := n / base
	r := n - q*base
	// A shift instead of a branch, which could not be foreseen: below is -1 if r is negative, otherwise 0.
	below := r >> 63
	return q + below, uint32(r + base&below)
}
