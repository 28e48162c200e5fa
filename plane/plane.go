// Package plane has the geometry of points with whole coordinates: layers 9 and 10 calculate with it. It is no layer. All points are in range, unless a function says otherwise; so all numbers fit into 64 bits.
package plane

import (
	"cmp"
	"slices"

	"fiducial/api"
)

// InRange reports whether any point p is in range.
func InRange(p api.Pix) bool {
	return inRange(p.X) && inRange(p.Y)
}

// inRange reports whether a coordinate is in range.
func inRange(x int) bool {
	return -api.MaxCoord <= x && x <= api.MaxCoord
}

// Compare compares two points by their x, then by their y.
func Compare(a, b api.Pix) int {
	return cmp.Or(cmp.Compare(a.X, b.X), cmp.Compare(a.Y, b.Y))
}

// Cross returns twice the area of the triangle a, b, c: above 0 if it is counter-clockwise.
func Cross(a, b, c api.Pix) int {
	return (b.X-a.X)*(c.Y-a.Y) - (b.Y-a.Y)*(c.X-a.X)
}

// Dot returns the scalar product of the ways from a to b and from a to c.
func Dot(a, b, c api.Pix) int {
	return (b.X-a.X)*(c.X-a.X) + (b.Y-a.Y)*(c.Y-a.Y)
}

// Turn returns 1 if the way from a over b to c turns left, -1 if it turns right, 0 if the points are collinear.
func Turn(a, b, c api.Pix) int {
	return cmp.Compare(Cross(a, b, c), 0)
}

// Between reports whether c is a point of the segment from a to b.
func Between(a, b, c api.Pix) bool {
	return Cross(a, b, c) == 0 && Dot(c, a, b) <= 0
}

// Relate says how the segments from a to b and from c to d lie to each other.
func Relate(a, b, c, d api.Pix) api.Meeting {
	ofA, ofB := Turn(c, d, a), Turn(c, d, b)
	ofC, ofD := Turn(a, b, c), Turn(a, b, d)
	switch {
	case ofA == 0 && ofB == 0 && ofC == 0 && ofD == 0:
		return relateOnLine(a, b, c, d)
	case ofA*ofB < 0 && ofC*ofD < 0:
		return api.Cross
	case Between(c, d, a) || Between(c, d, b) || Between(a, b, c) || Between(a, b, d):
		return api.Touch
	}
	return api.Apart
}

// relateOnLine is Relate for segments on one line; two segments of length 0 always lie on one.
func relateOnLine(a, b, c, d api.Pix) api.Meeting {
	first := func(l ...api.Pix) api.Pix { return slices.MinFunc(l, Compare) }
	last := func(l ...api.Pix) api.Pix { return slices.MaxFunc(l, Compare) }
	switch Compare(last(first(a, b), first(c, d)), first(last(a, b), last(c, d))) {
	case -1:
		return api.Overlap
	case 0:
		return api.Touch
	}
	return api.Apart
}

// Position returns 1, 0 or -1: whether p lies inside the triangle of a, b and c, which are not collinear, on its border or outside.
func Position(a, b, c, p api.Pix) int {
	side := Turn(a, b, c)
	return min(side*Turn(a, b, p), side*Turn(b, c, p), side*Turn(c, a, p))
}
