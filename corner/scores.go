package corner

import "fiducial/api"

// margin is the number of rows and of columns at each side of a raster whose scores are 0.
const margin = 2

// scoresOf returns the score of every pixel.
func scoresOf(r api.Raster) []int {
	scores := make([]int, len(r.Pixels))
	for i := range scores {
		x, y := i%r.Width, i/r.Width
		if within(x, margin, r.Width-margin-1) && within(y, margin, r.Height-margin-1) {
			scores[i] = score(r, x, y)
		}
	}
	return scores
}

// score returns the score of a pixel that is not in the margin.
func score(r api.Raster, x, y int) int {
	var a, b, c int
	for j := range 3 {
		for i := range 3 {
			g, h := gradient(r, x+i-1, y+j-1)
			a, b, c = a+g*g, b+g*h, c+h*h
		}
	}
	return 25*(a*c-b*b) - (a+c)*(a+c)
}

// gradient returns the gradient of a pixel that is not at the border.
func gradient(r api.Raster, x, y int) (g, h int) {
	i := y*r.Width + x
	return r.Pixels[i+1] - r.Pixels[i-1], r.Pixels[i+r.Width] - r.Pixels[i-r.Width]
}
