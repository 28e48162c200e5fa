package jet

import (
	"slices"

	"fiducial/api"
	"fiducial/fraction"
)

// nowhere is the place of a derivative that is 0 everywhere, for which there is no node.
const nowhere = -1

// builder makes a term; it remembers its nodes, so that none is made twice.
type builder struct {
	nodes api.Term
	known map[[3]int]int // the places of nodes, by operator and kids or number
}

// place says where a node, its kids, and the derivatives of these are in the term that is made.
type place struct {
	node         int
	kids, slopes [2]int
}

// Derive returns the derivative of t by the parameter i.
func Derive(t api.Term, vars, i int) (api.Term, api.Code) {
	switch code := Check(t, vars); {
	case code != api.OK:
		return nil, code
	case i < 0 || i >= vars:
		return nil, api.ErrRange
	}
	b := &builder{known: map[[3]int]int{}}
	last := b.derivative(t, i)
	if last == nowhere {
		last = b.number(0)
	}
	// The nodes of t that no derivative needs are left out only here.
	d := needed(b.nodes, last)
	if Check(d, vars) != api.OK {
		return nil, api.ErrLimit
	}
	return d, api.OK
}

// derivative makes the nodes of t and their derivatives by the parameter i, and returns the place of the last one.
func (b *builder) derivative(t api.Term, i int) int {
	table := operators()
	places, slopes := make([]int, len(t)), make([]int, len(t))
	for k, node := range t {
		places[k] = b.add(moved(node, places))
		slopes[k] = nowhere
		switch {
		case hasKids(node.Op):
			kids := kidsOf(node)
			n := place{node: places[k]}
			for j, kid := range kids {
				n.kids[j], n.slopes[j] = places[kid], slopes[kid]
			}
			slopes[k] = table[node.Op].slope(b, n)
		case node.Op == api.TermVar && node.A == i:
			slopes[k] = b.number(1)
		}
	}
	return slopes[len(t)-1]
}

// add returns the place of a node that is no constant, or of a new constant.
func (b *builder) add(node api.TermNode) int {
	if node.Op == api.TermConst {
		b.nodes = append(b.nodes, node)
		return len(b.nodes) - 1
	}
	return b.remember([3]int{int(node.Op), node.A, node.B}, node)
}

// number returns the place of the constant n.
func (b *builder) number(n int) int {
	return b.remember([3]int{int(api.TermConst), n}, api.TermNode{Op: api.TermConst, N: fraction.Whole(n)})
}

// remember returns the place of the node with a key.
func (b *builder) remember(key [3]int, node api.TermNode) int {
	k, ok := b.known[key]
	if !ok {
		k = len(b.nodes)
		b.nodes = append(b.nodes, node)
		b.known[key] = k
	}
	return k
}

// apply returns the place of a node with kids.
func (b *builder) apply(op api.TermOp, x, y int) int {
	return b.add(api.TermNode{Op: op, A: x, B: y})
}

// sum returns the place of x + y, each of which may be nowhere.
func (b *builder) sum(x, y int) int {
	switch {
	case x == nowhere:
		return y
	case y == nowhere:
		return x
	}
	return b.apply(api.TermAdd, x, y)
}

// difference returns the place of x - y, each of which may be nowhere.
func (b *builder) difference(x, y int) int {
	switch {
	case y == nowhere:
		return x
	case x == nowhere:
		return b.apply(api.TermNeg, y, 0)
	}
	return b.apply(api.TermSub, x, y)
}

// product returns the place of x y, where y may be nowhere.
func (b *builder) product(x, y int) int {
	switch y {
	case nowhere:
		return nowhere
	case b.number(1):
		return x
	}
	return b.apply(api.TermMul, x, y)
}

// quotient returns the place of x / y, where x may be nowhere.
func (b *builder) quotient(x, y int) int {
	if x == nowhere {
		return nowhere
	}
	return b.apply(api.TermDiv, x, y)
}

func (b *builder) slopeOfSum(n place) int {
	return b.sum(n.slopes[0], n.slopes[1])
}

func (b *builder) slopeOfDifference(n place) int {
	return b.difference(n.slopes[0], n.slopes[1])
}

func (b *builder) slopeOfNegative(n place) int {
	return b.difference(nowhere, n.slopes[0])
}

func (b *builder) slopeOfProduct(n place) int {
	return b.sum(b.product(n.kids[0], n.slopes[1]), b.product(n.kids[1], n.slopes[0]))
}

func (b *builder) slopeOfSquare(n place) int {
	return b.product(b.number(2), b.product(n.kids[0], n.slopes[0]))
}

// slopeOfQuotient takes the quotient w itself for a short term: (u' - w v') / v.
func (b *builder) slopeOfQuotient(n place) int {
	return b.quotient(b.difference(n.slopes[0], b.product(n.node, n.slopes[1])), n.kids[1])
}

// needed returns the nodes of a term that the one with an index needs, and this one as the last.
func needed(t api.Term, last int) api.Term {
	t = t[:last+1]
	keep := make([]bool, len(t))
	keep[last] = true
	for k, node := range slices.Backward(t) {
		if keep[k] && hasKids(node.Op) {
			kids := kidsOf(node)
			keep[kids[0]], keep[kids[1]] = true, true
		}
	}
	var list api.Term
	places := make([]int, len(t))
	for k, node := range t {
		if keep[k] {
			places[k] = len(list)
			list = append(list, moved(node, places))
		}
	}
	return list
}
