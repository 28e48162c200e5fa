package blob

import (
	"fiducial/api"
	"fiducial/fraction"
)

// Center returns the centre of the grey values of a region, in pixels.
func Center(b api.Blob) (api.Place, api.Code) {
	switch {
	case Check(b) != api.OK:
		return api.Place{}, api.ErrArgument
	case b.Mass == 0:
		return api.Place{}, api.ErrDegenerate
	}
	coordinate := func(sum int) api.Rat {
		// The centre of a pixel is a half behind its corner.
		x, _ := fraction.Of(2*sum+b.Mass, 2*b.Mass)
		return x
	}
	return api.Place{X: coordinate(b.MassX), Y: coordinate(b.MassY)}, api.OK
}

// Inertia returns the central second moments of a region.
func Inertia(b api.Blob) (xx, xy, yy api.Rat, code api.Code) {
	if code := Check(b); code != api.OK {
		return api.Rat{}, api.Rat{}, api.Rat{}, code
	}
	moment := func(products, left, right int) api.Rat {
		x, _ := fraction.Of(b.Area*products-left*right, b.Area*b.Area)
		return x
	}
	return moment(b.SumXX, b.SumX, b.SumX), moment(b.SumXY, b.SumX, b.SumY), moment(b.SumYY, b.SumY, b.SumY), api.OK
}

// Round reports whether the difference of the principal moments of a region is at most num/den of their sum.
func Round(b api.Blob, num, den int) (bool, api.Code) {
	xx, xy, yy, code := Inertia(b)
	if code != api.OK {
		return false, code
	}
	if !within(num, 0, maxPart) || !within(den, 1, maxPart) {
		return false, api.ErrRange
	}
	part, _ := fraction.Of(num, den)
	difference := fraction.Add(square(fraction.Sub(xx, yy)), square(fraction.Add(xy, xy)))
	most := square(fraction.Mul(part, fraction.Add(xx, yy)))
	return fraction.Compare(difference, most) <= 0, api.OK
}

// square returns x^2.
func square(x api.Rat) api.Rat {
	return fraction.Mul(x, x)
}
