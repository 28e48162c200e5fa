package polynomial

import (
	"fiducial/api"
	"fiducial/fraction"
	"fiducial/whole"
)

// sequence is the Sturm sequence of a polynomial that is not zero. From the index 2 on, the factors are relative to that of the last element but one: they are above 0, so that the signs do not need them, and their products can be long.
type sequence []whole.List

// sequenceOf returns the Sturm sequence of p, which is not zero.
func sequenceOf(p api.Poly) sequence {
	first := Squarefree(p)
	s := sequence{listOf(first)}
	for next := listOf(Derive(first)); len(next.Items) > 0; {
		last := s[len(s)-1]
		s = append(s, next)
		_, rest := whole.Divide(last.Items, next.Items)
		next = whole.Negative(rest)
	}
	return s
}

// polys returns the elements.
func (s sequence) polys() []api.Poly {
	list := make([]api.Poly, len(s))
	factors := make([]api.Rat, len(s))
	for i, p := range s {
		factors[i] = p.Factor
		if i >= 2 {
			factors[i] = fraction.Mul(p.Factor, factors[i-2])
		}
		list[i] = whole.List{Factor: factors[i], Items: p.Items}.Rats()
	}
	return list
}

// variations returns the number of changes of sign at x.
func (s sequence) variations(x api.Rat) int {
	changes, last := 0, 0
	see := func(sign int) {
		if sign*last < 0 {
			changes++
		}
		if sign != 0 {
			last = sign
		}
	}
	for _, p := range s {
		see(whole.Sign(p, x))
	}
	return changes
}

// count returns the number of roots from low, left out, to high.
func (s sequence) count(low, high api.Rat) int {
	return s.variations(low) - s.variations(high)
}

// Sturm returns the Sturm sequence of p.
func Sturm(p api.Poly) []api.Poly {
	if Degree(p) < 0 {
		return nil
	}
	return sequenceOf(p).polys()
}

// Count returns the number of different real roots of p in (low, high].
func Count(p api.Poly, low, high api.Rat) (int, api.Code) {
	switch {
	case Degree(p) < 0:
		return 0, api.ErrSingular
	case fraction.Compare(low, high) > 0:
		return 0, api.ErrOrder
	}
	return sequenceOf(p).count(fraction.Value(low), fraction.Value(high)), api.OK
}
