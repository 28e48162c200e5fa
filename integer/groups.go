package integer

import (
	"iter"
	"math/bits"
	"slices"
)

// A magnitude is a list of groups, the least significant one first, of which the last one is not 0.

// base is the number that a group is below.
const base = 1_000_000_000

// backwards ranges over the groups of a magnitude with their indices, the most significant one first.
func backwards(groups []uint32) iter.Seq2[int, uint32] {
	return func(yield func(int, uint32) bool) {
		for i := len(groups) - 1; i >= 0; i-- {
			if !yield(i, groups[i]) {
				return
			}
		}
	}
}

// trimmed cuts off the groups at the end that are 0.
func trimmed(groups []uint32) []uint32 {
	n := len(groups)
	for n > 0 && groups[n-1] == 0 {
		n--
	}
	return groups[:n]
}

// copied returns a copy of a magnitude.
func copied(groups []uint32) []uint32 {
	return slices.Clone(groups)
}

// ofNumber returns the magnitude n.
func ofNumber(n uint64) []uint32 {
	switch {
	case n == 0:
		return nil
	case n < base:
		return []uint32{uint32(n)}
	case n < base*base:
		return []uint32{uint32(n % base), uint32(n / base)}
	}
	return []uint32{uint32(n % base), uint32(n / base % base), uint32(n / base / base)}
}

// number returns a magnitude as a number of 64 bits, and whether it fits.
func number(groups []uint32) (uint64, bool) {
	if len(groups) > 3 {
		return 0, false
	}
	var n uint64
	for _, g := range backwards(groups) {
		high, low := bits.Mul64(n, base)
		next, carry := bits.Add64(low, uint64(g), 0)
		if high != 0 || carry != 0 {
			return 0, false
		}
		n = next
	}
	return n, true
}

// sum returns a + b.
func sum(a, b []uint32) []uint32 {
	if len(a) < len(b) {
		a, b = b, a
	}
	r := make([]uint32, len(a)+1)
	copy(r, a)
	addTo(r, b)
	return trimmed(r)
}

// difference returns a - b; b is at most a.
func difference(a, b []uint32) []uint32 {
	r := copied(a)
	subtractFrom(r, b)
	return trimmed(r)
}

// addTo adds b, which is not longer, to r, and returns the carry that has no place in r.
func addTo(r, b []uint32) uint32 {
	var carry uint32
	for i := range r {
		if i < len(b) {
			carry += b[i]
		} else if carry == 0 {
			return 0
		}
		s := r[i] + carry
		carry = 0
		if s >= base {
			s -= base
			carry = 1
		}
		r[i] = s
	}
	return carry
}

// subtractFrom subtracts b, which is at most r, from r.
func subtractFrom(r, b []uint32) {
	var borrow uint32
	for i := range r {
		if i < len(b) {
			borrow += b[i]
		} else if borrow == 0 {
			return
		}
		if r[i] >= borrow {
			r[i] -= borrow
			borrow = 0
		} else {
			r[i] += base - borrow
			borrow = 1
		}
	}
}
