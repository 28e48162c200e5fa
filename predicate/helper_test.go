package predicate_test

import (
	"math"
	"math/big"
	"math/rand"
	"slices"
	"testing"

	"fiducial/api"
	"fiducial/fraction"
	"fiducial/integer"
)

// most is the greatest magnitude of a coordinate.
const most = 1 << 20

// pt is a point.
func pt(x, y int) api.Pix {
	return api.Pix{X: x, Y: y}
}

// grid has all points with coordinates from 0 to n - 1.
func grid(n int) []api.Pix {
	var l []api.Pix
	for x := range n {
		for y := range n {
			l = append(l, pt(x, y))
		}
	}
	return l
}

// threes calls check with all triples of points of a grid.
func threes(n int, check func(a, b, c api.Pix)) {
	for _, a := range grid(n) {
		for _, b := range grid(n) {
			for _, c := range grid(n) {
				check(a, b, c)
			}
		}
	}
}

// fours calls check with all lists of four points of a grid.
func fours(n int, check func(a, b, c, d api.Pix)) {
	threes(n, func(a, b, c api.Pix) {
		for _, d := range grid(n) {
			check(a, b, c, d)
		}
	})
}

// outside are points that are not in range.
func outside() []api.Pix {
	var l []api.Pix
	for _, x := range []int{most + 1, -most - 1, 1 << 31, 1 << 32, -1 << 32, 1 << 62, math.MaxInt, math.MinInt, math.MinInt + 1} {
		l = append(l, pt(x, 0), pt(0, x), pt(x, x), pt(x, -most))
	}
	return l
}

// some calls check many times.
func some(rounds int, check func(r *rand.Rand)) {
	r := rand.New(rand.NewSource(9))
	for range rounds {
		check(r)
	}
}

// coordinate returns a number in range; many are at its ends.
func coordinate(r *rand.Rand) int {
	switch r.Intn(4) {
	case 0:
		return (most - r.Intn(3)) * (1 - 2*r.Intn(2))
	case 1:
		return r.Intn(9) - 4
	}
	return r.Intn(2*most+1) - most
}

// random returns a point in range.
func random(r *rand.Rand) api.Pix {
	return pt(coordinate(r), coordinate(r))
}

// inLine returns points on or next to a common line, in any order: few of their determinants are far from 0.
func inLine(r *rand.Rand, n int) []api.Pix {
	for {
		start, step := random(r), pt(r.Intn(7)-3, r.Intn(7)-3)
		if r.Intn(2) == 0 {
			step = pt(r.Intn(600000)-300000, r.Intn(600000)-300000)
		}
		var l []api.Pix
		for range n {
			k := r.Intn(7)
			p := pt(start.X+k*step.X, start.Y+k*step.Y)
			if r.Intn(4) == 0 {
				p.X += r.Intn(3) - 1
				p.Y += r.Intn(3) - 1
			}
			l = append(l, p)
		}
		if !slices.ContainsFunc(l, func(p api.Pix) bool { return max(p.X, -p.X, p.Y, -p.Y) > most }) {
			return l
		}
	}
}

// whole is n as a number of math/big.
func whole(n int) *big.Rat {
	return big.NewRat(int64(n), 1)
}

// plus, minus and times calculate with numbers of math/big.
func plus(x, y *big.Rat) *big.Rat  { return new(big.Rat).Add(x, y) }
func minus(x, y *big.Rat) *big.Rat { return new(big.Rat).Sub(x, y) }
func times(x, y *big.Rat) *big.Rat { return new(big.Rat).Mul(x, y) }

// vector has two coordinates in the numbers of math/big.
type vector struct{ x, y *big.Rat }

// vectorOf is the place of a point.
func vectorOf(p api.Pix) vector {
	return vector{whole(p.X), whole(p.Y)}
}

// less returns a - b.
func (a vector) less(b vector) vector {
	return vector{minus(a.x, b.x), minus(a.y, b.y)}
}

// cross is the determinant of a and b.
func (a vector) cross(b vector) *big.Rat {
	return minus(times(a.x, b.y), times(a.y, b.x))
}

// dot is the scalar product of a and b.
func (a vector) dot(b vector) *big.Rat {
	return plus(times(a.x, b.x), times(a.y, b.y))
}

// moved returns a + t b.
func (a vector) moved(t *big.Rat, b vector) vector {
	return vector{plus(a.x, times(t, b.x)), plus(a.y, times(t, b.y))}
}

// equals reports whether a and b are the same place.
func (a vector) equals(b vector) bool {
	return a.x.Cmp(b.x) == 0 && a.y.Cmp(b.y) == 0
}

// turn is the sign of the determinant, as a sum of the determinants of the points.
func turn(a, b, c api.Pix) int {
	p, q, r := vectorOf(a), vectorOf(b), vectorOf(c)
	return plus(plus(p.cross(q), q.cross(r)), r.cross(p)).Sign()
}

// span are the parameters t from low to high; if low is nil, there are none.
type span struct{ low, high *big.Rat }

// atLeast keeps those with p + q t >= 0.
func (s *span) atLeast(p, q *big.Rat) {
	if s.low == nil {
		return
	}
	if q.Sign() == 0 {
		if p.Sign() < 0 {
			s.low = nil
		}
		return
	}
	t := new(big.Rat).Quo(new(big.Rat).Neg(p), q)
	if q.Sign() > 0 && t.Cmp(s.low) > 0 {
		s.low = t
	}
	if q.Sign() < 0 && t.Cmp(s.high) < 0 {
		s.high = t
	}
	if s.low.Cmp(s.high) > 0 {
		s.low = nil
	}
}

// zero keeps those with p + q t = 0.
func (s *span) zero(p, q *big.Rat) {
	s.atLeast(p, q)
	s.atLeast(new(big.Rat).Neg(p), new(big.Rat).Neg(q))
}

// common says how two segments lie to each other, from the parameters t for which a + t (b - a) is a point of the other one; and it has the only common point.
func common(a, b, c, d api.Pix) (api.Meeting, vector) {
	from, along := vectorOf(a), vectorOf(b).less(vectorOf(a))
	start, other := from.less(vectorOf(c)), vectorOf(d).less(vectorOf(c))
	s := span{whole(0), whole(1)}
	if c == d {
		s.zero(start.x, along.x)
		s.zero(start.y, along.y)
	} else {
		s.zero(other.cross(start), other.cross(along))
		s.atLeast(other.dot(start), other.dot(along))
		s.atLeast(minus(other.dot(other), other.dot(start)), new(big.Rat).Neg(other.dot(along)))
	}
	switch {
	case s.low == nil:
		return api.Apart, vector{}
	case a != b && s.low.Cmp(s.high) < 0:
		return api.Overlap, vector{}
	}
	point := from.moved(s.low, along)
	for _, end := range []api.Pix{a, b, c, d} {
		if point.equals(vectorOf(end)) {
			return api.Touch, point
		}
	}
	return api.Cross, point
}

// bigInt is the value of x.
func bigInt(x api.Int) *big.Int {
	z, _ := new(big.Int).SetString(integer.Text(x), 10)
	return z
}

// equal fails the test if got is not canonical or has not the value of want.
func equal(t *testing.T, what string, got api.Rat, want *big.Rat) {
	t.Helper()
	if !fraction.Valid(got) || bigInt(got.Num).Cmp(want.Num()) != 0 || bigInt(got.Den).Cmp(want.Denom()) != 0 {
		t.Fatalf("%s = %v, want %s", what, got, want)
	}
}

// isBlank reports whether x is the zero value.
func isBlank(x api.Rat) bool {
	return !x.Num.Negative && !x.Den.Negative && len(x.Num.Groups) == 0 && len(x.Den.Groups) == 0
}

// spoil overwrites the memory of a number.
func spoil(x api.Rat) {
	for _, groups := range [][]uint32{x.Num.Groups, x.Den.Groups} {
		for i := range groups {
			groups[i] = 987654321
		}
		_ = append(groups, 987654321)
	}
}

// bigRat is the value of x, which is canonical.
func bigRat(x api.Rat) *big.Rat {
	return new(big.Rat).SetFrac(bigInt(x.Num), bigInt(x.Den))
}
