package radiometry

import (
	"fiducial/api"
	"fiducial/integer"
)

// pixel is the width of a pixel, in the unit of coordinates.
const pixel = 64

// curve is a gain as a function of the squared distance n from the centre, in the unit of coordinates: (one + linear n + square n^2) / one. So there is no need to reduce fractions at every pixel.
type curve struct {
	centre              api.Pix
	one, linear, square api.Int
}

// curveOf returns the curve of a gain.
func curveOf(g api.Gain) curve {
	unit := integer.Of(pixel * pixel)
	a, b := integer.Mul(unit, g.A.Den), integer.Mul(integer.Mul(unit, unit), g.B.Den)
	return curve{
		centre: g.Centre,
		one:    integer.Mul(a, b),
		linear: integer.Mul(g.A.Num, b),
		square: integer.Mul(g.B.Num, a),
	}
}

// at returns the gain at a pixel, multiplied by one.
func (c curve) at(x, y int) api.Int {
	dx, dy := middle(x)-c.centre.X, middle(y)-c.centre.Y
	n := integer.Of(dx*dx + dy*dy)
	return total(c.one, integer.Mul(c.linear, n), integer.Mul(c.square, integer.Mul(n, n)))
}

// middle returns the coordinate of the middle of a pixel.
func middle(x int) int {
	return pixel*x + pixel/2
}

// isValid reports whether the gain at a pixel is neither too small nor too great.
func (c curve) isValid(x, y int) bool {
	gain, most := c.at(x, y), integer.Of(maxGain)
	return integer.Compare(integer.Mul(most, gain), c.one) >= 0 && integer.Compare(gain, integer.Mul(most, c.one)) <= 0
}
