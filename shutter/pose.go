package shutter

import (
	"fiducial/api"
	"fiducial/fraction"
)

// pose is a position and a rotation, which is not zero.
type pose struct {
	at   vector
	turn api.Quat
}

// poseOf returns the pose of a row, or ErrDegenerate if its rotation is zero.
func poseOf(s api.Shutter, row int) (pose, api.Code) {
	time := timeOf(s, row)
	turn := turnAt(s, time)
	if turn == (api.Quat{}) {
		return pose{}, api.ErrDegenerate
	}
	return pose{positionAt(s, time), turn}, api.OK
}

// timeOf returns the time of a row.
func timeOf(s api.Shutter, row int) int {
	return s.First + row*s.Step
}

// positionAt returns the position at a time.
func positionAt(s api.Shutter, time int) vector {
	passed, _ := fraction.Of(time-s.A.Time, s.B.Time-s.A.Time)
	from := spot(s.A.At)
	return from.plus(spot(s.B.At).minus(from).times(passed))
}

// turnAt returns the rotation at a time, which may be zero.
func turnAt(s api.Shutter, time int) api.Quat {
	before, after := s.B.Time-time, time-s.A.Time
	mixed := func(a, b int) int { return before*a + after*b }
	a, b := s.A.Turn, s.B.Turn
	return reduced(api.Quat{A: mixed(a.A, b.A), B: mixed(a.B, b.B), C: mixed(a.C, b.C), D: mixed(a.D, b.D)})
}

// ground returns the point of the plane Z = height whose image is at.
func (p pose) ground(c Camera, at api.Pix, height int) (api.Place, api.Code) {
	along := turned(p.turn, whole(at.X-c.Centre.X, at.Y-c.Centre.Y, c.Focal))
	reach, code := fraction.Divide(fraction.Sub(fraction.Whole(height), p.at[2]), along[2])
	switch {
	case code != api.OK:
		return api.Place{}, api.ErrDegenerate
	case fraction.Sign(reach) <= 0:
		return api.Place{}, api.ErrBehind
	}
	point := p.at.plus(along.times(reach))
	return api.Place{X: point[0], Y: point[1]}, api.OK
}

// image returns the image of a point of the plane Z = height.
func (p pose) image(c Camera, ground api.Place, height int) (api.Place, api.Code) {
	point := vector{ground.X, ground.Y, fraction.Whole(height)}
	// The matrix of the conjugate is the transpose.
	seen := turned(conjugate(p.turn), point.minus(p.at))
	if fraction.Sign(seen[2]) <= 0 {
		return api.Place{}, api.ErrBehind
	}
	scale, _ := fraction.Divide(fraction.Whole(c.Focal), seen[2])
	coordinate := func(centre int, x api.Rat) api.Rat {
		return fraction.Add(fraction.Whole(centre), fraction.Mul(scale, x))
	}
	return api.Place{X: coordinate(c.Centre.X, seen[0]), Y: coordinate(c.Centre.Y, seen[1])}, api.OK
}
