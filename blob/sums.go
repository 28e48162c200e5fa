package blob

import "fiducial/api"

// single returns the blob of one pixel.
func single(x, y, grey int) api.Blob {
	return api.Blob{
		Area: 1,
		Left: x, Top: y, Right: x, Bottom: y,
		SumX: x, SumY: y, SumXX: x * x, SumXY: x * y, SumYY: y * y,
		Mass: grey, MassX: grey * x, MassY: grey * y,
	}
}

// joined returns the blob of two disjoint regions.
func joined(a, b api.Blob) api.Blob {
	return api.Blob{
		Area:   a.Area + b.Area,
		Left:   min(a.Left, b.Left),
		Top:    min(a.Top, b.Top),
		Right:  max(a.Right, b.Right),
		Bottom: max(a.Bottom, b.Bottom),
		SumX:   a.SumX + b.SumX,
		SumY:   a.SumY + b.SumY,
		SumXX:  a.SumXX + b.SumXX,
		SumXY:  a.SumXY + b.SumXY,
		SumYY:  a.SumYY + b.SumYY,
		Mass:   a.Mass + b.Mass,
		MassX:  a.MassX + b.MassX,
		MassY:  a.MassY + b.MassY,
	}
}

// hasSize reports whether the area and the box of a blob are in their ranges.
func hasSize(b api.Blob) bool {
	return within(b.Area, 1, maxArea) && isSide(b.Left, b.Right) && isSide(b.Top, b.Bottom)
}

// isSide reports whether low and high can be the ends of a side of a box.
func isSide(low, high int) bool {
	return within(high, 0, api.MaxPixel-1) && within(low, 0, high)
}

// hasSums reports whether the sums of coordinates of a blob are in their ranges.
func hasSums(b api.Blob) bool {
	const most = (api.MaxPixel - 1) * (api.MaxPixel - 1)
	for _, sum := range [3]int{b.SumXX, b.SumXY, b.SumYY} {
		if !within(sum, 0, b.Area*most) {
			return false
		}
	}
	return within(b.SumX, b.Area*b.Left, b.Area*b.Right) && within(b.SumY, b.Area*b.Top, b.Area*b.Bottom)
}

// hasMass reports whether the sums with grey values of a blob are in their ranges.
func hasMass(b api.Blob) bool {
	return within(b.Mass, 0, b.Area*api.MaxGrey) && within(b.MassX, b.Mass*b.Left, b.Mass*b.Right) && within(b.MassY, b.Mass*b.Top, b.Mass*b.Bottom)
}
