package integer

import "math/bits"

// squareRoot returns the greatest number whose square is at most a.
func squareRoot(a []uint32) []uint32 {
	if n, ok := number(a); ok {
		return ofNumber(rootOfNumber(n))
	}
	// The root of the first half of the groups, a little increased, is the beginning of one that is too great.
	k := max(1, (len(a)-1)/4)
	first := sum(squareRoot(a[2*k:]), []uint32{1})
	return descend(a, append(make([]uint32, k), first...))
}

// descend returns the root of a by Newton's method, from x on, which is above it.
func descend(a, x []uint32) []uint32 {
	for {
		quotient, _ := divideGroups(a, x)
		next, _ := divideShort(sum(x, quotient), 2)
		if compareGroups(next, x) >= 0 {
			return x
		}
		x = next
	}
}

// rootOfNumber returns the greatest number whose square is at most n.
func rootOfNumber(n uint64) uint64 {
	if n == 0 {
		return 0
	}
	// The first x is at least the root, and below 2^33.
	x := uint64(1) << ((bits.Len64(n) + 1) / 2)
	for {
		next := (x + n/x) / 2
		if next >= x {
			return x
		}
		x = next
	}
}

// logarithm returns the greatest k for which 2 to the power k is at most a, which is not 0.
func logarithm(a []uint32) int {
	// The powers with the exponents 1, 2, 4 and so on.
	var powers [][]uint32
	for p := []uint32{2}; compareGroups(p, a) <= 0; p = multiply(p, p) {
		powers = append(powers, p)
	}
	k, reached := 0, []uint32{1}
	for i := len(powers) - 1; i >= 0; i-- {
		next := multiply(reached, powers[i])
		if compareGroups(next, a) <= 0 {
			k += 1 << i
			reached = next
		}
	}
	return k
}
