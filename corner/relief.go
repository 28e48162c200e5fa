package corner

import "fiducial/api"

// relief has the scores of a raster, row by row.
type relief struct {
	width  int
	scores []int
}

// corners returns the corners of the peaks above a threshold, which is not below 0, in the order of their pixels.
func (m relief) corners(threshold int) []api.Corner {
	var l []api.Corner
	for i, s := range m.scores {
		// A pixel with a score above 0 is not in the margin, so it has all neighbours.
		if s > threshold && m.isPeak(i) {
			l = append(l, m.corner(i))
		}
	}
	return l
}

// isPeak reports whether the score of a pixel is greater than those of its earlier neighbours, and at least those of the later ones.
func (m relief) isPeak(i int) bool {
	for _, step := range [4]int{1, m.width - 1, m.width, m.width + 1} {
		if m.scores[i-step] >= m.scores[i] || m.scores[i+step] > m.scores[i] {
			return false
		}
	}
	return true
}

// corner returns the corner of a peak.
func (m relief) corner(i int) api.Corner {
	position := func(pixel, step int) int {
		return 2*half*pixel + half + offset(m.scores[i-step], m.scores[i], m.scores[i+step])
	}
	return api.Corner{X: position(i%m.width, 1), Y: position(i/m.width, m.width), Score: m.scores[i]}
}
