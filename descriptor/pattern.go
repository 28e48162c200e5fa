package descriptor

import (
	"slices"

	"fiducial/api"
)

const (
	maxTests = 64 // greatest number of tests of a pattern: the bits of a word
	maxBox   = 8  // greatest width and height of a box
	reach    = 16 // greatest distance of the columns and rows of a box from the feature
)

// Check returns OK if p is a pattern.
func Check(p []Test) api.Code {
	isNone := func(t Test) bool { return !isBox(t.A) || !isBox(t.B) }
	if !within(len(p), 1, maxTests) || slices.ContainsFunc(p, isNone) {
		return api.ErrArgument
	}
	return api.OK
}

// isBox reports whether a test can have this box.
func isBox(b [4]int) bool {
	return isStretch(b[0], b[2]) && isStretch(b[1], b[3])
}

// isStretch reports whether a box can have count columns, or rows, from first on. No sum is made of the arguments, which could be too great.
func isStretch(first, count int) bool {
	return within(count, 1, maxBox) && within(first, -reach, reach+1-count)
}

// Standard returns the standard pattern.
func Standard() []Test {
	p := make([]Test, maxTests)
	for i := range p {
		p[i] = Test{A: [4]int{i%8 - 4, i/8 - 4, 1, 1}, B: [4]int{4 - (3*i+1)%9, 4 - (5*i+2)%9, 1, 1}}
	}
	return p
}

// Turned returns the pattern for a raster that is turned by a quarter.
func Turned(p []Test) ([]Test, api.Code) {
	if code := Check(p); code != api.OK {
		return nil, code
	}
	return turned(p), api.OK
}

// turned returns the turned pattern of p.
func turned(p []Test) []Test {
	result := make([]Test, len(p))
	for i, t := range p {
		result[i] = Test{A: turnedBox(t.A), B: turnedBox(t.B)}
	}
	return result
}

// turnedBox returns the box b turned counter-clockwise around the feature.
func turnedBox(b [4]int) [4]int {
	return [4]int{b[1], 1 - b[0] - b[2], b[3], b[2]}
}
