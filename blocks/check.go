package blocks

import (
	"slices"

	"fiducial/api"
	"fiducial/fraction"
)

const (
	maxRows = 12 // block rows of a system
	maxSize = 12 // unknowns of a block row
)

// allCanonical reports whether all elements of a list are canonical.
func allCanonical(l []api.Rat) bool {
	return !slices.ContainsFunc(l, func(x api.Rat) bool { return !fraction.Valid(x) })
}

// canonical reports whether all fractions of a system are canonical.
func canonical(s api.System) bool {
	for _, b := range s.Blocks {
		for _, row := range b.At {
			if !allCanonical(row) {
				return false
			}
		}
	}
	return allCanonical(s.Right)
}

// withinLimits reports whether there may be so many block rows and unknowns.
func withinLimits(sizes []int) bool {
	if len(sizes) < 1 || len(sizes) > maxRows {
		return false
	}
	for _, n := range sizes {
		if n < 1 || n > maxSize {
			return false
		}
	}
	return sum(sizes...) <= api.MaxDim
}

// checkBlock returns the code for a block, apart from its place in the list.
func checkBlock(sizes []int, b api.Block) api.Code {
	switch {
	case b.Col < 0 || b.Col > b.Row || b.Row >= len(sizes):
		return api.ErrRange
	case !hasSize(b.At, sizes[b.Row], sizes[b.Col]) || b.Row == b.Col && !symmetric(b.At):
		return api.ErrMismatch
	}
	return api.OK
}

// hasSize reports whether a has so many rows and columns.
func hasSize(a api.Matrix, rows, columns int) bool {
	return len(a) == rows && !slices.ContainsFunc(a, func(row []api.Rat) bool { return len(row) != columns })
}

// symmetric reports whether a square matrix is symmetric.
func symmetric(a api.Matrix) bool {
	for i, row := range a {
		for j := range i {
			if fraction.Compare(row[j], a[j][i]) != 0 {
				return false
			}
		}
	}
	return true
}

// keyOf returns the place of a block.
func keyOf(b api.Block) [2]int {
	return [2]int{b.Row, b.Col}
}

// compareKeys compares two pairs of numbers by the first ones, then by the second ones.
func compareKeys(a, b [2]int) int {
	return slices.Compare(a[:], b[:])
}

// checkList returns the code for a list of block rows of a system.
func checkList(s api.System, list []int) api.Code {
	if code := Check(s); code != api.OK {
		return code
	}
	var seen [maxRows]bool
	for _, k := range list {
		if k < 0 || k >= len(s.Sizes) {
			return api.ErrRange
		}
		if seen[k] {
			return api.ErrDuplicate
		}
		seen[k] = true
	}
	return api.OK
}

// checkOrder returns the code for an order of all block rows of a system.
func checkOrder(s api.System, order []int) api.Code {
	if code := Check(s); code != api.OK {
		return code
	}
	if checkList(s, order) != api.OK || len(order) != len(s.Sizes) {
		return api.ErrOrder
	}
	return api.OK
}
