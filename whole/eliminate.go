package whole

import (
	"fiducial/api"
	"fiducial/fraction"
	"fiducial/integer"
)

// Eliminate returns l less the multiple of pivot that makes the element k zero. The elements before it are 0 in both lists; that of pivot is not 0.
func Eliminate(l, pivot List, k int) List {
	a, b := coprime(pivot.Items[k], l.Items[k])
	rest := Over(combine(a, l.Items[k+1:], b, pivot.Items[k+1:]), a)
	items := make([]api.Int, len(l.Items))
	copy(items[k+1:], rest.Items)
	return List{fraction.Mul(l.Factor, rest.Factor), items}
}

// Substitute returns some integers, less the multiples of other lists by further integers, divided by pivot, which is not 0.
func Substitute(items, multiples []api.Int, others []List, pivot api.Int) List {
	products := make([]api.Rat, len(others))
	for i, other := range others {
		products[i] = times(other.Factor, multiples[i])
	}
	factors, denominator := cleared(products)
	list := make([]api.Int, len(items))
	copy(list, items)
	multiply(list, denominator)
	one := integer.Of(1)
	for i, other := range others {
		if !isZero(factors[i]) {
			list = combine(one, list, factors[i], other.Items)
		}
	}
	return Over(list, integer.Mul(denominator, pivot))
}
