package correlate

import "fiducial/api"

// area is a rectangle of positions: the first and the last column and row. It has none if the last one is before the first one.
type area struct{ left, top, right, bottom int }

// positionsOf returns the positions of a patch of some size in an image.
func positionsOf(width, height int, image api.Raster) area {
	return area{0, 0, image.Width - width, image.Height - height}
}

// has reports whether (x, y) is in a.
func (a area) has(x, y int) bool {
	return within(x, a.left, a.right) && within(y, a.top, a.bottom)
}

// inner returns the positions that have a neighbour on all four sides.
func (a area) inner() area {
	return area{a.left + 1, a.top + 1, a.right - 1, a.bottom - 1}
}

// around returns the positions within a reach of p in both directions.
func (a area) around(p api.Pix, reach int) area {
	return area{max(a.left, p.X-reach), max(a.top, p.Y-reach), min(a.right, p.X+reach), min(a.bottom, p.Y+reach)}
}
