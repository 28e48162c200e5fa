package camera

import (
	"fiducial/api"
	"fiducial/fraction"
	"fiducial/polynomial"
)

// model is a lens in fractions. With w = (p2, p1) its distortion maps u to (L(t) + 2 w.u) u + t w.
type model struct {
	radial     api.Poly  // L
	slope      api.Poly  // the derivative of L
	tangential api.Place // w
	radius     api.Rat   // of the field
}

// modelOf returns the model of a lens.
func modelOf(l api.Lens) model {
	radial := polynomial.Clean([]api.Rat{fraction.Whole(1), part(l.Radial[0]), part(l.Radial[1]), part(l.Radial[2])})
	radius, _ := fraction.Of(l.Field, l.Focal)
	return model{
		radial:     radial,
		slope:      polynomial.Derive(radial),
		tangential: api.Place{X: part(l.Tangential[1]), Y: part(l.Tangential[0])},
		radius:     radius,
	}
}

// part returns the value of a distortion number.
func part(n int) api.Rat {
	x, _ := fraction.Of(n, maxDistortion)
	return x
}

// end returns T, the greatest square of a point of the field.
func (m model) end() api.Rat {
	return fraction.Mul(m.radius, m.radius)
}

// contains reports whether the field contains p.
func (m model) contains(p api.Place) bool {
	return fraction.Compare(square(p), m.end()) <= 0
}

// factor returns L(t) + 2 w.u.
func (m model) factor(u api.Place) api.Rat {
	return fraction.Add(polynomial.Eval(m.radial, square(u)), twice(dot(m.tangential, u)))
}

// distorted returns the point to which u is mapped.
func (m model) distorted(u api.Place) api.Place {
	return sum(times(m.factor(u), u), times(square(u), m.tangential))
}

// derivative returns the derivative in the direction e at u.
func (m model) derivative(u, e api.Place) api.Place {
	// Those of t and of the factor.
	growth := twice(dot(u, e))
	change := fraction.Add(fraction.Mul(polynomial.Eval(m.slope, square(u)), growth), twice(dot(m.tangential, e)))
	return sum(times(m.factor(u), e), sum(times(change, u), times(growth, m.tangential)))
}

// twice returns 2 x.
func twice(x api.Rat) api.Rat {
	return fraction.Add(x, x)
}

// half returns x / 2.
func half(x api.Rat) api.Rat {
	h, _ := fraction.Divide(x, fraction.Whole(2))
	return h
}
