package integer

import "math/bits"

// splitFrom is the number of groups from which on three products of halves are faster than four.
const splitFrom = 48

// multiply returns a * b.
func multiply(a, b []uint32) []uint32 {
	if len(a) < len(b) {
		a, b = b, a
	}
	switch {
	case len(b) == 0:
		return nil
	case len(b) < splitFrom:
		return multiplyColumns(a, b)
	}
	half := (len(a) + 1) / 2
	if len(b) <= half {
		return joined(multiply(trimmed(a[:half]), b), multiply(a[half:], b), half)
	}
	return multiplyHalves(a, b, half)
}

// multiplyHalves returns a * b, with one product for the two products of a low and a high half: that of the sums of the halves, less the others.
func multiplyHalves(a, b []uint32, half int) []uint32 {
	a0, a1 := trimmed(a[:half]), a[half:]
	b0, b1 := trimmed(b[:half]), b[half:]
	low, high := multiply(a0, b0), multiply(a1, b1)
	middle := multiply(sum(a0, a1), sum(b0, b1))
	subtractFrom(middle, low)
	subtractFrom(middle, high)
	r := make([]uint32, len(a)+len(b))
	copy(r, low)
	copy(r[2*half:], high)
	addTo(r[half:], trimmed(middle))
	return trimmed(r)
}

// joined returns low + high * base^places.
func joined(low, high []uint32, places int) []uint32 {
	r := make([]uint32, max(len(low), places+len(high))+1)
	copy(r, low)
	addTo(r[places:], high)
	return trimmed(r)
}

// multiplyColumns returns a * b, group by group: the products that belong to a group are added in 128 bits before they are divided.
func multiplyColumns(a, b []uint32) []uint32 {
	r := make([]uint32, len(a)+len(b))
	var carry uint64
	for k := range len(r) - 1 {
		low, high := carry, uint64(0)
		for i := max(0, k-len(b)+1); i <= min(k, len(a)-1); i++ {
			var c uint64
			low, c = bits.Add64(low, uint64(a[i])*uint64(b[k-i]), 0)
			high += c
		}
		var group uint64
		carry, group = bits.Div64(high, low, base)
		r[k] = uint32(group)
	}
	r[len(r)-1] = uint32(carry)
	return trimmed(r)
}

// power returns a to the power n.
func power(a []uint32, n int) []uint32 {
	r := []uint32{1}
	for ; n > 0; n /= 2 {
		if n%2 == 1 {
			r = multiply(r, a)
		}
		if n > 1 {
			a = multiply(a, a)
		}
	}
	return r
}
