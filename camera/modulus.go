package camera

import (
	"sort"

	"fiducial/api"
	"fiducial/fraction"
	"fiducial/polynomial"
)

// moduli is the denominator of all moduli.
const moduli = 256

// Modulus returns the modulus of l.
func Modulus(l api.Lens) (api.Rat, api.Code) {
	if code := Check(l); code != api.OK {
		return api.Rat{}, code
	}
	m := modelOf(l)
	// With a number, all lesser ones are admissible, too: so many are.
	k := sort.Search(moduli-1, func(i int) bool { return !m.admits(i + 1) })
	if k == 0 {
		return api.Rat{}, api.ErrDegenerate
	}
	return fraction.Of(k, moduli)
}

// growth returns M(t) = L(t) + 2 t L'(t).
func (m model) growth() api.Poly {
	return polynomial.Add(m.radial, polynomial.Mul(linear(fraction.Whole(2)), m.slope))
}

// admits reports whether k / 256 is admissible.
func (m model) admits(k int) bool {
	modulus, _ := fraction.Of(k, moduli)
	tangential := linear(fraction.Mul(fraction.Whole(36), square(m.tangential)))
	for _, p := range []api.Poly{m.radial, m.growth()} {
		rest := polynomial.Sub(p, api.Poly{modulus})
		if !isPositive(rest, m.end()) || !isPositive(polynomial.Sub(polynomial.Mul(rest, rest), tangential), m.end()) {
			return false
		}
	}
	return true
}

// linear returns the polynomial x t.
func linear(x api.Rat) api.Poly {
	return api.Poly{fraction.Whole(0), x}
}

// isPositive reports whether p is above 0 from 0 to end.
func isPositive(p api.Poly, end api.Rat) bool {
	start := fraction.Whole(0)
	if fraction.Sign(polynomial.Eval(p, start)) <= 0 {
		return false
	}
	roots, _ := polynomial.Count(p, start, end)
	return roots == 0
}
