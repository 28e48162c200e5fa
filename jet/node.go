package jet

import (
	"fiducial/api"
	"fiducial/fraction"
	"fiducial/interval"
)

// operator says how a node is calculated from its kids. A kid that stands alone takes both places.
type operator struct {
	value func(x, y api.Rat) (api.Rat, api.Code)
	image func(a, b api.Range) (api.Range, api.Code)
	slope func(b *builder, n place) int
}

// operators returns the operators; those without kids have no functions.
func operators() [api.TermSquare + 1]operator {
	return [...]operator{
		api.TermAdd:    {always(fraction.Add), interval.Add, (*builder).slopeOfSum},
		api.TermSub:    {always(fraction.Sub), interval.Sub, (*builder).slopeOfDifference},
		api.TermMul:    {always(fraction.Mul), interval.Mul, (*builder).slopeOfProduct},
		api.TermDiv:    {fraction.Divide, interval.Divide, (*builder).slopeOfQuotient},
		api.TermNeg:    {always(negative), negativeRange, (*builder).slopeOfNegative},
		api.TermSquare: {always(fraction.Mul), squareRange, (*builder).slopeOfSquare},
	}
}

// always returns an operation that has no errors in the form of one that may have.
func always(operation func(x, y api.Rat) api.Rat) func(x, y api.Rat) (api.Rat, api.Code) {
	return func(x, y api.Rat) (api.Rat, api.Code) { return operation(x, y), api.OK }
}

func negative(x, _ api.Rat) api.Rat { return fraction.Neg(x) }

func negativeRange(a, _ api.Range) (api.Range, api.Code) { return interval.Neg(a) }

func squareRange(a, _ api.Range) (api.Range, api.Code) { return interval.Square(a) }

// hasKids reports whether A is a node.
func hasKids(op api.TermOp) bool {
	return op >= api.TermAdd
}

// hasTwo reports whether A and B are nodes.
func hasTwo(op api.TermOp) bool {
	return op >= api.TermAdd && op <= api.TermDiv
}

// kidsOf returns the kids of a node that has some.
func kidsOf(node api.TermNode) [2]int {
	if hasTwo(node.Op) {
		return [2]int{node.A, node.B}
	}
	return [2]int{node.A, node.A}
}

// checkNode returns the code for the node with an index, apart from its size.
func checkNode(node api.TermNode, index, vars int) api.Code {
	switch {
	case node.Op < api.TermConst || node.Op > api.TermSquare || !hasForm(node):
		return api.ErrArgument
	case hasKids(node.Op):
		kids := kidsOf(node)
		if min(kids[0], kids[1]) < 0 || max(kids[0], kids[1]) >= index {
			return api.ErrOrder
		}
	case node.Op == api.TermVar && (node.A < 0 || node.A >= vars):
		return api.ErrRange
	}
	return api.OK
}

// hasForm reports whether the fields that the operator does not use are zero, and the number of a constant is canonical.
func hasForm(node api.TermNode) bool {
	if node.Op == api.TermConst {
		return node.A == 0 && node.B == 0 && fraction.Valid(node.N)
	}
	return isBlank(node.N.Num) && isBlank(node.N.Den) && (hasTwo(node.Op) || node.B == 0)
}

// isBlank reports whether x is the zero value.
func isBlank(x api.Int) bool {
	return !x.Negative && len(x.Groups) == 0
}

// sizeOf returns the size of a node from those of the earlier nodes.
func sizeOf(node api.TermNode, sizes []int) int {
	switch {
	case !hasKids(node.Op):
		return 1
	case node.Op == api.TermNeg:
		return sizes[node.A]
	}
	kids := kidsOf(node)
	return sizes[kids[0]] + sizes[kids[1]]
}

// moved returns a node in new memory whose kids have other places.
func moved(node api.TermNode, places []int) api.TermNode {
	switch {
	case node.Op == api.TermConst:
		return api.TermNode{Op: node.Op, N: fraction.Value(node.N)}
	case hasTwo(node.Op):
		return api.TermNode{Op: node.Op, A: places[node.A], B: places[node.B]}
	case hasKids(node.Op):
		return api.TermNode{Op: node.Op, A: places[node.A]}
	}
	return api.TermNode{Op: node.Op, A: node.A}
}
