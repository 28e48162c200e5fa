package interval_test

import (
	"math/rand"
	"slices"
	"testing"

	"fiducial/api"
	"fiducial/fraction"
	"fiducial/integer"
	"fiducial/interval"
)

// rat is the fraction with a text.
func rat(t *testing.T, s string) api.Rat {
	t.Helper()
	x, code := fraction.Parse(s)
	if code != api.OK {
		t.Fatalf("%q is no fraction", s)
	}
	return x
}

// of is the interval with the texts of its ends.
func of(t *testing.T, low, high string) api.Range {
	t.Helper()
	return api.Range{Low: rat(t, low), High: rat(t, high)}
}

// text is the text of an interval.
func text(a api.Range) string {
	return "[" + fraction.Text(a.Low) + ", " + fraction.Text(a.High) + "]"
}

// sameRat reports whether x and y have the same form.
func sameRat(x, y api.Rat) bool {
	return x.Num.Negative == y.Num.Negative && slices.Equal(x.Num.Groups, y.Num.Groups) && x.Den.Negative == y.Den.Negative && slices.Equal(x.Den.Groups, y.Den.Groups)
}

// same reports whether a and b have the same form.
func same(a, b api.Range) bool {
	return sameRat(a.Low, b.Low) && sameRat(a.High, b.High)
}

// equal fails the test if got is not the canonical form of want.
func equal(t *testing.T, what string, got, want api.Range) {
	t.Helper()
	if !same(got, want) {
		t.Fatalf("%s = %s, want %s", what, text(got), text(want))
	}
}

// number returns a fraction; some are 0 or whole, some have long parts.
func number(r *rand.Rand) api.Rat {
	n, d := r.Intn(31)-15, 1+r.Intn(6)
	if r.Intn(4) == 0 {
		n, d = r.Intn(1<<60)-1<<59, 1+r.Intn(1<<60)
	}
	x, _ := fraction.Of(n, d)
	return x
}

// random returns an interval; some are points, many have 0 as an end or within.
func random(r *rand.Rand) api.Range {
	low, high := number(r), number(r)
	switch r.Intn(6) {
	case 0:
		high = low
	case 1:
		low = fraction.Whole(0)
	}
	if fraction.Compare(low, high) > 0 {
		low, high = high, low
	}
	return api.Range{Low: fraction.Value(low), High: fraction.Value(high)}
}

// within returns some elements of a: its ends, its middle, one anywhere, and 0 if it is one.
func within(r *rand.Rand, a api.Range) []api.Rat {
	width := fraction.Sub(a.High, a.Low)
	part := func(n, d int) api.Rat {
		q, _ := fraction.Of(n, d)
		return fraction.Add(a.Low, fraction.Mul(width, q))
	}
	l := []api.Rat{a.Low, a.High, part(1, 2), part(r.Intn(101), 100)}
	if fraction.Sign(a.Low) <= 0 && fraction.Sign(a.High) >= 0 {
		l = append(l, fraction.Whole(0))
	}
	return l
}

// inner returns an interval inside of a.
func inner(r *rand.Rand, a api.Range) api.Range {
	l := within(r, a)
	x, y := l[r.Intn(len(l))], l[r.Intn(len(l))]
	if fraction.Compare(x, y) > 0 {
		x, y = y, x
	}
	return api.Range{Low: x, High: y}
}

// notCanonical are values that are no fractions.
func notCanonical() []api.Rat {
	one, two := integer.Of(1), integer.Of(2)
	return []api.Rat{{}, {Num: one}, {Num: two, Den: two}, {Num: one, Den: integer.Of(-2)}, {Den: two}, {Num: api.Int{Groups: []uint32{1, 0}}, Den: one}, {Num: one, Den: api.Int{Groups: []uint32{1_000_000_000}}}}
}

// notValid are values that are no intervals.
func notValid() []api.Range {
	one := fraction.Whole(1)
	l := []api.Range{{Low: one, High: fraction.Whole(0)}, {Low: fraction.Whole(-1), High: fraction.Whole(-2)}}
	for _, x := range notCanonical() {
		l = append(l, api.Range{Low: x, High: one}, api.Range{Low: fraction.Neg(one), High: x}, api.Range{Low: x, High: x})
	}
	return l
}

// unary is an operation of one argument with its image of a number.
type unary struct {
	name  string
	apply func(a api.Range) (api.Range, api.Code)
	at    func(x api.Rat) api.Rat
}

func unaries() []unary {
	square := func(x api.Rat) api.Rat { return fraction.Mul(x, x) }
	return []unary{{"Neg", interval.Neg, fraction.Neg}, {"Square", interval.Square, square}}
}

// binary is an operation of two arguments with its image of two numbers.
type binary struct {
	name  string
	apply func(a, b api.Range) (api.Range, api.Code)
	at    func(x, y api.Rat) api.Rat
}

func binaries() []binary {
	quotient := func(x, y api.Rat) api.Rat {
		q, _ := fraction.Divide(x, y)
		return q
	}
	dot := func(a, b api.Range) (api.Range, api.Code) {
		return interval.Dot([]api.Range{a}, []api.Range{b})
	}
	return []binary{{"Add", interval.Add, fraction.Add}, {"Sub", interval.Sub, fraction.Sub}, {"Mul", interval.Mul, fraction.Mul}, {"Divide", interval.Divide, quotient}, {"Dot", dot, fraction.Mul}}
}

// hasZero reports whether 0 is an element of a.
func hasZero(a api.Range) bool {
	return fraction.Sign(a.Low) <= 0 && fraction.Sign(a.High) >= 0
}

// image returns the interval from the least to the greatest of some numbers.
func image(l []api.Rat) api.Range {
	low, _ := fraction.Least(l)
	high, _ := fraction.Greatest(l)
	return api.Range{Low: low, High: high}
}
