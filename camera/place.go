package camera

import (
	"fiducial/api"
	"fiducial/fraction"
)

// sum returns p + q.
func sum(p, q api.Place) api.Place {
	return api.Place{X: fraction.Add(p.X, q.X), Y: fraction.Add(p.Y, q.Y)}
}

// difference returns p - q.
func difference(p, q api.Place) api.Place {
	return api.Place{X: fraction.Sub(p.X, q.X), Y: fraction.Sub(p.Y, q.Y)}
}

// times returns k p.
func times(k api.Rat, p api.Place) api.Place {
	return api.Place{X: fraction.Mul(k, p.X), Y: fraction.Mul(k, p.Y)}
}

// dot returns the inner product of p and q.
func dot(p, q api.Place) api.Rat {
	return fraction.Add(fraction.Mul(p.X, q.X), fraction.Mul(p.Y, q.Y))
}

// square returns the squared distance of p from the centre.
func square(p api.Place) api.Rat {
	return dot(p, p)
}
