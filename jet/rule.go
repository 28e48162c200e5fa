package jet

import (
	"fiducial/api"
	"fiducial/fraction"
	"fiducial/interval"
)

// family holds the jets of a node and of its kids; its methods are the rules for the derivatives by the parameters i and k.
type family struct{ w, u, v *jet }

// rule has the derivatives of a node.
type rule struct {
	first  func(i int) api.Range
	second func(i, k int) api.Range
}

// rule returns the rule of an operator with kids. Its value is calculated before the first derivatives, and these before the second ones.
func (n family) rule(op api.TermOp) rule {
	table := [...]rule{
		api.TermAdd:    {n.sumFirst, n.sumSecond},
		api.TermSub:    {n.differenceFirst, n.differenceSecond},
		api.TermMul:    {n.productFirst, n.productSecond},
		api.TermDiv:    {n.quotientFirst, n.quotientSecond},
		api.TermNeg:    {n.negativeFirst, n.negativeSecond},
		api.TermSquare: {n.squareFirst, n.squareSecond},
	}
	return table[op]
}

func (n family) sumFirst(i int) api.Range {
	return plus(n.u.grad[i], n.v.grad[i])
}

func (n family) sumSecond(i, k int) api.Range {
	return plus(n.u.second(i, k), n.v.second(i, k))
}

func (n family) differenceFirst(i int) api.Range {
	return minus(n.u.grad[i], n.v.grad[i])
}

func (n family) differenceSecond(i, k int) api.Range {
	return minus(n.u.second(i, k), n.v.second(i, k))
}

func (n family) negativeFirst(i int) api.Range {
	return minus(api.Range{}, n.u.grad[i])
}

func (n family) negativeSecond(i, k int) api.Range {
	return minus(api.Range{}, n.u.second(i, k))
}

func (n family) productFirst(i int) api.Range {
	return plus(times(n.u.value, n.v.grad[i]), times(n.v.value, n.u.grad[i]))
}

func (n family) productSecond(i, k int) api.Range {
	return plus(times(n.u.value, n.v.second(i, k)), times(n.v.value, n.u.second(i, k)), crossed(n.u, n.v, i, k))
}

// crossed returns the sum of the products of first derivatives of two jets, by i and k and by k and i.
func crossed(a, b *jet, i, k int) api.Range {
	return plus(times(a.grad[i], b.grad[k]), times(a.grad[k], b.grad[i]))
}

func (n family) quotientFirst(i int) api.Range {
	return over(minus(n.u.grad[i], times(n.w.value, n.v.grad[i])), n.v.value)
}

func (n family) quotientSecond(i, k int) api.Range {
	share := plus(crossed(n.w, n.v, i, k), times(n.w.value, n.v.second(i, k)))
	return over(minus(n.u.second(i, k), share), n.v.value)
}

func (n family) squareFirst(i int) api.Range {
	half := times(n.u.value, n.u.grad[i])
	return plus(half, half)
}

func (n family) squareSecond(i, k int) api.Range {
	half := times(n.u.grad[i], n.u.grad[k])
	if i == k && !isZero(half) {
		half, _ = interval.Square(n.u.grad[i])
	}
	half = plus(half, times(n.u.value, n.u.second(i, k)))
	return plus(half, half)
}

// The functions below take valid intervals, and the zero value of api.Range for the interval of 0 alone; they have no errors then.

// isZero reports whether 0 is the only element of a.
func isZero(a api.Range) bool {
	return isBlank(a.Low.Num) && isBlank(a.High.Num)
}

// plus returns the sum of some intervals.
func plus(l ...api.Range) api.Range {
	var sum api.Range
	for _, a := range l {
		switch {
		case isZero(a):
		case isZero(sum):
			sum = a
		default:
			sum, _ = interval.Add(sum, a)
		}
	}
	return sum
}

// minus returns the difference of two intervals.
func minus(a, b api.Range) api.Range {
	if isZero(b) {
		return a
	}
	b, _ = interval.Neg(b)
	return plus(a, b)
}

// times returns the product of two intervals.
func times(a, b api.Range) api.Range {
	if isZero(a) || isZero(b) {
		return api.Range{}
	}
	a, _ = interval.Mul(a, b)
	return a
}

// over returns the quotient of two intervals; 0 is no element of b.
func over(a, b api.Range) api.Range {
	if isZero(a) {
		return a
	}
	a, _ = interval.Divide(a, b)
	return a
}

// point returns the interval of a number alone.
func point(x api.Rat) api.Range {
	a, _ := interval.Point(x)
	return a
}

// copied returns an interval in new memory.
func copied(a api.Range) api.Range {
	if isZero(a) {
		return point(fraction.Whole(0))
	}
	return api.Range{Low: fraction.Value(a.Low), High: fraction.Value(a.High)}
}
