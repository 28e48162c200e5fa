package polygon

import (
	"fiducial/api"
	"fiducial/fraction"
	"fiducial/plane"
)

// maxPlaces is the greatest number of points of a list of Places.
const maxPlaces = 2 * api.MaxVertices

// isCanonical reports whether the coordinates of v are canonical.
func isCanonical(v api.Place) bool {
	return fraction.Valid(v.X) && fraction.Valid(v.Y)
}

// checkPlaces returns the code for a list of Places and some more points.
func checkPlaces(p []api.Place, others ...api.Place) api.Code {
	for _, list := range [][]api.Place{p, others} {
		for _, v := range list {
			if !isCanonical(v) {
				return api.ErrArgument
			}
		}
	}
	if len(p) > maxPlaces {
		return api.ErrLimit
	}
	return api.OK
}

// Size returns twice the signed area of a list of points.
func Size(p []api.Place) (api.Rat, api.Code) {
	if code := checkPlaces(p); code != api.OK {
		return api.Rat{}, code
	}
	// The x of each point, times the difference of the y of its neighbours.
	n := len(p)
	x, rises := make([]api.Rat, n), make([]api.Rat, n)
	for i, v := range p {
		x[i], rises[i] = v.X, fraction.Sub(p[(i+1)%n].Y, p[(i+n-1)%n].Y)
	}
	return fraction.Dot(x, rises)
}

// Clip returns the part of p to the left of the line from a to b.
func Clip(p []api.Place, a, b api.Place) ([]api.Place, api.Code) {
	if code := checkPlaces(p, a, b); code != api.OK {
		return nil, code
	}
	x, y := fraction.Sub(b.X, a.X), fraction.Sub(b.Y, a.Y)
	if fraction.Sign(x) == 0 && fraction.Sign(y) == 0 {
		return nil, api.ErrDegenerate
	}
	return clipped(p, func(q api.Place) api.Rat {
		return fraction.Sub(fraction.Mul(x, fraction.Sub(q.Y, a.Y)), fraction.Mul(y, fraction.Sub(q.X, a.X)))
	}), api.OK
}

// halfPlane is what lies on one side of a line: it says how far a point is from the line, in any unit; points on the other side have distances below 0.
type halfPlane func(q api.Place) api.Rat

// clipped returns the part of p in a half-plane, in new memory.
func clipped(p []api.Place, distance halfPlane) []api.Place {
	distances := make([]api.Rat, len(p))
	for i, v := range p {
		distances[i] = distance(v)
	}
	var part []api.Place
	for i, v := range p {
		next := (i + 1) % len(p)
		here, there := fraction.Sign(distances[i]), fraction.Sign(distances[next])
		if here >= 0 {
			part = append(part, api.Place{X: fraction.Value(v.X), Y: fraction.Value(v.Y)})
		}
		if here*there < 0 {
			part = append(part, passage(v, p[next], distances[i], distances[next]))
		}
	}
	return part
}

// passage returns the point where the edge from v to w passes a line, from which its ends have distances with different signs.
func passage(v, w api.Place, from, to api.Rat) api.Place {
	part, _ := fraction.Divide(from, fraction.Sub(from, to))
	along := func(start, end api.Rat) api.Rat {
		return fraction.Add(start, fraction.Mul(part, fraction.Sub(end, start)))
	}
	return api.Place{X: along(v.X, w.X), Y: along(v.Y, w.Y)}
}

// Window returns the part of p in a rectangle.
func Window(p []api.Pix, low, high api.Pix) ([]api.Place, api.Code) {
	if code := Check(p); code != api.OK {
		return nil, code
	}
	switch {
	case !plane.InRange(low) || !plane.InRange(high):
		return nil, api.ErrRange
	case low.X >= high.X || low.Y >= high.Y:
		return nil, api.ErrOrder
	}
	part := make([]api.Place, len(p))
	for i, v := range p {
		part[i] = placeOf(v)
	}
	// A part may have more vertices than Clip takes.
	for _, side := range sides(placeOf(low), placeOf(high)) {
		part = clipped(part, side)
	}
	return part, api.OK
}

// placeOf returns v as a Place.
func placeOf(v api.Pix) api.Place {
	return api.Place{X: fraction.Whole(v.X), Y: fraction.Whole(v.Y)}
}

// sides returns the sides of the rectangle from low to high: left, right, lower, upper.
func sides(low, high api.Place) []halfPlane {
	return []halfPlane{
		func(q api.Place) api.Rat { return fraction.Sub(q.X, low.X) },
		func(q api.Place) api.Rat { return fraction.Sub(high.X, q.X) },
		func(q api.Place) api.Rat { return fraction.Sub(q.Y, low.Y) },
		func(q api.Place) api.Rat { return fraction.Sub(high.Y, q.Y) },
	}
}
