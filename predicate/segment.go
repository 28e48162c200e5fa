package predicate

import (
	"fiducial/api"
	"fiducial/fraction"
	"fiducial/integer"
	"fiducial/plane"
)

// Relate says how the closed segments from a to b and from c to d lie to each other.
func Relate(a, b, c, d api.Pix) (api.Meeting, api.Code) {
	if code := Check(a, b, c, d); code != api.OK {
		return api.Apart, code
	}
	return plane.Relate(a, b, c, d), api.OK
}

// Meet returns the common point of two segments that cross or touch.
func Meet(a, b, c, d api.Pix) (api.Place, api.Code) {
	meeting, code := Relate(a, b, c, d)
	switch {
	case code != api.OK:
		return api.Place{}, code
	case meeting == api.Apart:
		return api.Place{}, api.ErrMissing
	case meeting == api.Overlap:
		return api.Place{}, api.ErrState
	case meeting == api.Touch:
		end := commonEnd(a, b, c, d)
		return api.Place{X: fraction.Whole(end.X), Y: fraction.Whole(end.Y)}, api.OK
	}
	return crossing(a, b, c, d), api.OK
}

// commonEnd returns the common point of two segments that touch.
func commonEnd(a, b, c, d api.Pix) api.Pix {
	switch {
	case plane.Between(c, d, a):
		return a
	case plane.Between(c, d, b):
		return b
	case plane.Between(a, b, c):
		return c
	}
	return d
}

// crossing returns the common point of two segments that cross.
func crossing(a, b, c, d api.Pix) api.Place {
	// On the way from a to b the distance from the line through c and d changes evenly from the one to the other.
	from, to := plane.Cross(c, d, a), plane.Cross(c, d, b)
	part, _ := fraction.Of(from, from-to)
	along := func(start, end int) api.Rat {
		return fraction.Add(fraction.Whole(start), fraction.Mul(part, fraction.Whole(end-start)))
	}
	return api.Place{X: along(a.X, b.X), Y: along(a.Y, b.Y)}
}

// Near returns the squared distance of p from the closed segment from a to b.
func Near(a, b, p api.Pix) (api.Rat, api.Code) {
	if code := Check(a, b, p); code != api.OK {
		return api.Rat{}, code
	}
	length, along := plane.Dot(a, b, b), plane.Dot(a, b, p)
	switch {
	case along <= 0:
		return fraction.Whole(plane.Dot(a, p, p)), api.OK
	case along >= length:
		return fraction.Whole(plane.Dot(b, p, p)), api.OK
	}
	// The distance is the height of the triangle over the side from a to b.
	cross := integer.Of(plane.Cross(a, b, p))
	return fraction.New(integer.Mul(cross, cross), integer.Of(length))
}
