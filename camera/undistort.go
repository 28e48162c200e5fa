package camera

import (
	"math/bits"

	"fiducial/api"
	"fiducial/fraction"
	"fiducial/polynomial"
)

const (
	maxPlaces = 60 // the greatest number of binary places to which the distortion is inverted
	minPlaces = 36 // to at least so many, it always is
)

// Undistort returns a point that l maps near p, and the squared distance.
func Undistort(l api.Lens, p api.Place, k int) (api.Place, api.Rat, api.Code) {
	if code := checkPoints(l, p); code != api.OK {
		return api.Place{}, api.Rat{}, code
	}
	if !within(k, 1, maxPlaces) {
		return api.Place{}, api.Rat{}, api.ErrRange
	}
	m := modelOf(l)
	if !m.admits(1) {
		return api.Place{}, api.Rat{}, api.ErrDegenerate
	}
	u := m.searchFor(p, k).point()
	distance := m.squareTo(p, u)
	if !isNear(distance, k) {
		return api.Place{}, api.Rat{}, api.ErrOutside
	}
	return u, distance, api.OK
}

// CheckUndistort returns OK if l maps u within 2^-k of p.
func CheckUndistort(l api.Lens, p, u api.Place, k int) api.Code {
	if code := checkPoints(l, p, u); code != api.OK {
		return code
	}
	if !within(k, 1, maxPlaces) {
		return api.ErrRange
	}
	m := modelOf(l)
	switch {
	case !m.contains(u):
		return api.ErrOutside
	case !isNear(m.squareTo(p, u), k):
		return api.ErrProof
	}
	return api.OK
}

// squareTo returns the squared distance from p of the point to which u is mapped.
func (m model) squareTo(p, u api.Place) api.Rat {
	return square(difference(m.distorted(u), p))
}

// isNear reports whether a squared distance is at most 2^(-2k).
func isNear(distance api.Rat, k int) bool {
	most, _ := fraction.Of(1, 1<<k)
	return fraction.Compare(distance, fraction.Mul(most, most)) <= 0
}

// search looks for the point u of the field that is mapped to the target p. Since (L(t) + 2 w.u) u = p - t w and, where there is a modulus, L(t) + 2 w.u is above 0, u has the direction of d = p - t w. So what is searched for is its distance r from the centre: the point r d / |d| is mapped to p + c d / |d|, with c = r (L(t) + 2 r w.d / |d|) - |d|. Because (D(a) - D(b)).(a - b) is above 0, c is below 0 for all lesser distances, and above 0 for all greater ones.
type search struct {
	model
	target api.Place
	places int // binary places of all results
}

// searchFor returns the search that finds a point that is mapped within 2^-k of p. Roundings move the point by less than 5 units of the last place (the distance 1, the direction that depends on it 1, the length of d 1, both coordinates 2), and the target by less than 1.
func (m model) searchFor(p api.Place, k int) search {
	// L(t) and M(t) are the eigenvalues of the derivatives without the tangential numbers, which add less than these where there is a modulus. So all is stretched less than twice as much as this number says, and 2^4 units of the last place are enough.
	stretch := m.growth()
	for i, c := range stretch {
		stretch[i] = fraction.Abs(c)
	}
	// A point that is mapped to p is at most 2^8 times as far away from one that is mapped to the target as p is from the target. With so many places this is less than 2^-8 of the radius, which is at least 2^-20: the field contains that point, too, unless the first one is at its border.
	places := max(k, minPlaces) + 4
	for x := polynomial.Eval(stretch, m.end()); fraction.Compare(x, fraction.Whole(1)) > 0; x = half(x) {
		places++
	}
	// The numbers of p may be of any length.
	x, _ := fraction.Near(p.X, places)
	y, _ := fraction.Near(p.Y, places)
	return search{m, api.Place{X: x, Y: y}, places}
}

// rest returns d for a distance.
func (s search) rest(r api.Rat) api.Place {
	return difference(s.target, times(fraction.Mul(r, r), s.tangential))
}

// isBehind reports whether a distance above 0 is greater than the one that is searched for.
func (s search) isBehind(r api.Rat) bool {
	t, d := fraction.Mul(r, r), s.rest(r)
	length := square(d)
	// Multiplied by |d|, c is left |d| - right.
	left := fraction.Mul(r, polynomial.Eval(s.radial, t))
	right := fraction.Sub(length, fraction.Mul(twice(t), dot(s.tangential, d)))
	return fraction.Sign(right) <= 0 || fraction.Compare(fraction.Mul(fraction.Mul(left, left), length), fraction.Mul(right, right)) > 0
}

// distance returns the greatest distance in the field that is not behind the one that is searched for.
func (s search) distance() api.Rat {
	r, step := fraction.Whole(0), fraction.Whole(api.MaxField)
	for range bits.Len(api.MaxField) + s.places {
		next := fraction.Add(r, step)
		if fraction.Compare(next, s.radius) <= 0 && !s.isBehind(next) {
			r = next
		}
		step = half(step)
	}
	return r
}

// point returns the point at this distance, rounded towards the centre, so that the field contains it.
func (s search) point() api.Place {
	r := s.distance()
	d := s.rest(r)
	// A modulus is at least 2^-8: the quotient is below 2^8.
	_, length, _ := fraction.Root(square(d), s.places+8)
	ratio, code := fraction.Divide(r, length)
	if code != api.OK {
		// The target is the centre.
		return d
	}
	return api.Place{X: s.inwards(fraction.Mul(ratio, d.X)), Y: s.inwards(fraction.Mul(ratio, d.Y))}
}

// inwards returns x rounded towards 0.
func (s search) inwards(x api.Rat) api.Rat {
	rounded, _ := fraction.Down(fraction.Abs(x), s.places)
	if fraction.Sign(x) < 0 {
		return fraction.Neg(rounded)
	}
	return rounded
}
