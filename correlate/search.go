package correlate

import (
	"fiducial/api"
	"fiducial/fraction"
)

// search compares a patch, of which the sum and the spread are known, with windows of an image.
type search struct {
	patch       api.Raster
	sum, spread int
	image       view
}

// searchOf returns the search for a patch in an image, if both are rasters.
func searchOf(patch, image api.Raster) (search, api.Code) {
	if code := checked(patch, image); code != api.OK {
		return search{}, code
	}
	return searchFor(patch, viewOf(image)), api.OK
}

// searchFor returns the search for a patch, which is a raster.
func searchFor(patch api.Raster, image view) search {
	sum, spread := viewOf(patch).spread(0, 0, patch.Width, patch.Height)
	return search{patch, sum, spread, image}
}

// positions returns the positions of the patch.
func (s search) positions() area {
	return positionsOf(s.patch.Width, s.patch.Height, s.image.Raster)
}

// score returns the score at a position.
func (s search) score(x, y int) api.Rat {
	sum, spread := s.image.spread(x, y, s.patch.Width, s.patch.Height)
	if s.spread == 0 || spread == 0 {
		return fraction.Whole(0)
	}
	c := len(s.patch.Pixels)*s.product(x, y) - s.sum*sum
	// All these numbers fit into an int, but not c |c|.
	a, _ := fraction.Of(c, s.spread)
	b, _ := fraction.Of(max(c, -c), spread)
	return fraction.Mul(a, b)
}

// product returns the sum of the products of the pixels of the patch and of its window at a position.
func (s search) product(x, y int) int {
	sum, width := 0, s.patch.Width
	for j := range s.patch.Height {
		window := s.image.Pixels[(y+j)*s.image.Width+x:]
		for i, g := range s.patch.Pixels[j*width : (j+1)*width] {
			sum += g * window[i]
		}
	}
	return sum
}

// best returns the position of an area with the greatest score, of several the first one row by row, and whether there is one.
func (s search) best(a area) (peak, bool) {
	return first(a, s.score, func(score, other api.Rat) bool { return fraction.Compare(score, other) > 0 })
}

// peak is a position with its score.
type peak struct {
	x, y  int
	score api.Rat
}

// first returns the first position of an area, row by row, whose score no other one exceeds, and whether there is one.
func first(a area, scoreAt func(x, y int) api.Rat, exceeds func(score, other api.Rat) bool) (best peak, ok bool) {
	greatest := fraction.Whole(1)
rows:
	for y := a.top; y <= a.bottom; y++ {
		for x := a.left; x <= a.right; x++ {
			score := scoreAt(x, y)
			if ok && !exceeds(score, best.score) {
				continue
			}
			best, ok = peak{x, y, score}, true
			if !exceeds(greatest, score) {
				break rows
			}
		}
	}
	return best, ok
}
