package fraction

import "fiducial/api"

// Sum returns the sum of the list.
func Sum(l []api.Rat) api.Rat {
	terms := make([]api.Rat, len(l))
	for i, x := range l {
		terms[i] = counted(x)
	}
	return total(terms...)
}

// Dot returns the sum of the products of the elements of two lists.
func Dot(a, b []api.Rat) (api.Rat, api.Code) {
	if len(a) != len(b) {
		return api.Rat{}, api.ErrMismatch
	}
	products := make([]api.Rat, len(a))
	for i := range a {
		products[i] = Mul(a[i], b[i])
	}
	return total(products...), api.OK
}

// Least returns the least element of the list.
func Least(l []api.Rat) (api.Rat, api.Code) {
	return extreme(-1, l...)
}

// Greatest returns the greatest element of the list.
func Greatest(l []api.Rat) (api.Rat, api.Code) {
	return extreme(1, l...)
}

// total returns the sum of some canonical fractions. It adds up each half first, so that few additions have long numbers.
func total(terms ...api.Rat) api.Rat {
	switch len(terms) {
	case 0:
		return Whole(0)
	case 1:
		return copied(terms[0])
	}
	half := len(terms) / 2
	return add(total(terms[:half]...), total(terms[half:]...))
}

// extreme returns the least of some fractions if side is -1, the greatest if side is 1.
func extreme(side int, l ...api.Rat) (api.Rat, api.Code) {
	if len(l) == 0 {
		return api.Rat{}, api.ErrMissing
	}
	best := counted(l[0])
	for _, x := range l[1:] {
		if x = counted(x); compare(x, best) == side {
			best = x
		}
	}
	return copied(best), api.OK
}
