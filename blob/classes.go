package blob

import (
	"slices"

	"fiducial/api"
)

// none is the number of a pixel that belongs to no class.
const none = -1

// steps lead from a pixel to its neighbours; those along rows and columns come first.
var steps = [8][2]int{{-1, 0}, {1, 0}, {0, -1}, {0, 1}, {-1, -1}, {1, -1}, {-1, 1}, {1, 1}}

// How many of the steps join pixels.
const (
	beside = 4
	around = 8
)

// classes divides the pixels whose grey values belong to a kind into the classes of those that can be reached from one another by the first steps. It returns the number of the class of each pixel, in the order of the first pixels of the classes, and how many classes there are.
func classes(r api.Raster, joining int, belongs func(grey int) bool) (numbers []int, count int) {
	numbers = slices.Repeat([]int{none}, len(r.Pixels))
	isNew := func(i int) bool { return numbers[i] == none && belongs(r.Pixels[i]) }
	fill := func(first int) {
		numbers[first] = count
		stack := []int{first}
		for len(stack) > 0 {
			last := len(stack) - 1
			i := stack[last]
			stack = stack[:last]
			for k := range joining {
				if j, ok := neighbour(r, i, steps[k]); ok && isNew(j) {
					numbers[j] = count
					stack = append(stack, j)
				}
			}
		}
	}
	for i := range r.Pixels {
		if isNew(i) {
			fill(i)
			count++
		}
	}
	return numbers, count
}

// neighbour returns the pixel to which a step leads, and whether there is one.
func neighbour(r api.Raster, i int, step [2]int) (int, bool) {
	x, y := i%r.Width+step[0], i/r.Width+step[1]
	return y*r.Width + x, within(x, 0, r.Width-1) && within(y, 0, r.Height-1)
}

// isAtBorder reports whether a pixel is one of the border of r.
func isAtBorder(r api.Raster, i int) bool {
	x, y := i%r.Width, i/r.Width
	return x == 0 || y == 0 || x == r.Width-1 || y == r.Height-1
}
