package predicate_test

import (
	"math/big"
	"math/rand"
	"testing"

	"fiducial/api"
	"fiducial/predicate"
)

// P9.1: the ends of the range, in every place of a list of any length.
func TestCheck(t *testing.T) {
	corners := []api.Pix{pt(most, most), pt(-most, most), pt(most, -most), pt(-most, -most), pt(0, 0)}
	if predicate.Check() != api.OK || predicate.Check(corners...) != api.OK {
		t.Errorf("Check: %d without points, %d at the corners", predicate.Check(), predicate.Check(corners...))
	}
	for _, p := range corners {
		if code := predicate.Check(p); code != api.OK {
			t.Errorf("Check(%v): %d", p, code)
		}
	}
	for _, p := range outside() {
		for k := range 4 {
			l := []api.Pix{pt(1, 2), pt(most, 4), pt(5, -most), pt(7, 8)}
			l[k] = p
			if code := predicate.Check(l[:k+1]...); code != api.ErrRange {
				t.Errorf("Check(%v): %d", l[:k+1], code)
			}
			if code := predicate.Check(l...); code != api.ErrRange {
				t.Errorf("Check(%v): %d", l, code)
			}
		}
	}
}

// P9.1: the sign of the turn, and how it changes with the order of the points.
func TestOrient(t *testing.T) {
	check := func(a, b, c api.Pix) {
		want := turn(a, b, c)
		for _, l := range [][3]api.Pix{{a, b, c}, {b, c, a}, {c, a, b}} {
			if got := predicate.Orient(l[0], l[1], l[2]); got != want {
				t.Fatalf("Orient(%v) = %d, want %d", l, got, want)
			}
			if got := predicate.Orient(l[1], l[0], l[2]); got != -want {
				t.Fatalf("Orient(%v, %v, %v) = %d, want %d", l[1], l[0], l[2], got, -want)
			}
		}
	}
	threes(4, check)
	some(3000, func(r *rand.Rand) {
		check(random(r), random(r), random(r))
		l := inLine(r, 3)
		check(l[0], l[1], l[2])
	})
	check(pt(-most, -most), pt(most, most), pt(most, most-1))
	check(pt(-most, -most), pt(0, 0), pt(most, most))
	if predicate.Orient(pt(0, 0), pt(4, 0), pt(0, 4)) != 1 || predicate.Orient(pt(-most, -most), pt(most-1, most), pt(most, most)) != -1 {
		t.Error("the example, or the corners of the range")
	}
}

// position is Circle, from the centre of the circle.
func position(a, b, c, d api.Pix) int {
	if turn(a, b, c) == 0 {
		return 0
	}
	// The centre m has 2 (b - a) m = b b - a a, and the same with c.
	p, q, r := vectorOf(a), vectorOf(b), vectorOf(c)
	first, second := q.less(p), r.less(p)
	half := func(x *big.Rat) *big.Rat { return times(x, big.NewRat(1, 2)) }
	u, v := half(minus(q.dot(q), p.dot(p))), half(minus(r.dot(r), p.dot(p)))
	all := first.cross(second)
	centre := vector{minus(times(u, second.y), times(v, first.y)), minus(times(first.x, v), times(second.x, u))}
	centre = vector{new(big.Rat).Quo(centre.x, all), new(big.Rat).Quo(centre.y, all)}
	radius, distance := p.less(centre), vectorOf(d).less(centre)
	return radius.dot(radius).Cmp(distance.dot(distance))
}

// P9.2: the position with regard to the circle, whatever the order of the points on it.
func TestCircle(t *testing.T) {
	check := func(a, b, c, d api.Pix) {
		want := position(a, b, c, d)
		for _, l := range [][3]api.Pix{{a, b, c}, {b, a, c}, {c, a, b}} {
			if got := predicate.Circle(l[0], l[1], l[2], d); got != want {
				t.Fatalf("Circle(%v, %v) = %d, want %d", l, d, got, want)
			}
		}
	}
	fours(3, check)
	some(2000, func(r *rand.Rand) {
		check(random(r), random(r), random(r), random(r))
		l := inLine(r, 4)
		check(l[0], l[1], l[2], l[3])
	})
	for _, c := range []struct {
		d    api.Pix
		want int
	}{{pt(1, 1), 1}, {pt(3, 3), 1}, {pt(4, 4), 0}, {pt(5, 5), -1}, {pt(0, 0), 0}, {pt(4, 0), 0}} {
		if got := predicate.Circle(pt(0, 0), pt(4, 0), pt(0, 4), c.d); got != c.want {
			t.Errorf("the example: %v: %d", c.d, got)
		}
	}
}

// onCircle are the points of the circle around the origin with the radius 32 * 5 * 13 * 17 * 29, which almost fills the range.
func onCircle() []api.Pix {
	var l []api.Pix
	const radius = 5 * 13 * 17 * 29
	y := radius
	for x := range radius + 1 {
		for x*x+y*y > radius*radius {
			y--
		}
		if x*x+y*y == radius*radius {
			l = append(l, pt(32*x, 32*y), pt(-32*x, 32*y), pt(32*x, -32*y), pt(-32*x, -32*y))
		}
	}
	return l
}

// P9.2: points on and next to a great circle, where the determinant has far more than 64 bits.
func TestGreatCircle(t *testing.T) {
	l := onCircle()
	if len(l) < 300 {
		t.Fatalf("%d points", len(l))
	}
	some(3000, func(r *rand.Rand) {
		a, b, c, d := l[r.Intn(len(l))], l[r.Intn(len(l))], l[r.Intn(len(l))], l[r.Intn(len(l))]
		if got := predicate.Circle(a, b, c, d); got != 0 {
			t.Fatalf("Circle(%v, %v, %v, %v) = %d", a, b, c, d, got)
		}
		near := pt(d.X+r.Intn(3)-1, d.Y+r.Intn(3)-1)
		want := 0
		if turn(a, b, c) != 0 {
			want = big.NewInt(int64(d.X*d.X + d.Y*d.Y)).Cmp(big.NewInt(int64(near.X*near.X + near.Y*near.Y)))
		}
		if got := predicate.Circle(a, b, c, near); got != want {
			t.Fatalf("Circle(%v, %v, %v, %v) = %d, want %d", a, b, c, near, got, want)
		}
	})
	low, high := pt(-most, -most), pt(most, most)
	for _, c := range []struct {
		d    api.Pix
		want int
	}{{pt(-most, most), 0}, {pt(-most+1, most), 1}, {pt(-most, most-1), 1}, {pt(0, 0), 1}, {low, 0}} {
		if got := predicate.Circle(low, pt(most, -most), high, c.d); got != c.want {
			t.Errorf("the square: %v: %d", c.d, got)
		}
	}
	// The circle touches the side of the square at (most, 0).
	if got := predicate.Circle(pt(0, -most), pt(most, 0), pt(0, most), low); got != -1 {
		t.Errorf("a corner of the square: %d", got)
	}
}

// P9.2: collinear and equal points make no circle.
func TestNoCircle(t *testing.T) {
	for _, l := range [][3]api.Pix{{pt(0, 0), pt(1, 1), pt(5, 5)}, {pt(0, 0), pt(0, 0), pt(5, 5)}, {pt(0, 0), pt(5, 5), pt(0, 0)}, {pt(5, 5), pt(0, 0), pt(0, 0)}, {pt(3, 3), pt(3, 3), pt(3, 3)}} {
		for _, d := range []api.Pix{pt(0, 0), pt(2, 2), pt(1, 0), pt(9, 9), pt(-most, most)} {
			if got := predicate.Circle(l[0], l[1], l[2], d); got != 0 {
				t.Errorf("Circle(%v, %v) = %d", l, d, got)
			}
		}
	}
}

// P9.3: the points of a segment, of length 0 too.
func TestBetween(t *testing.T) {
	check := func(a, b, c api.Pix) {
		meeting, _ := common(a, b, c, c)
		if got := predicate.Between(a, b, c); got != (meeting != api.Apart) {
			t.Fatalf("Between(%v, %v, %v) = %t", a, b, c, got)
		}
	}
	threes(4, check)
	some(3000, func(r *rand.Rand) {
		check(random(r), random(r), random(r))
		l := inLine(r, 3)
		check(l[0], l[1], l[2])
	})
	low, high := pt(-most, -most), pt(most, most)
	for _, c := range []struct {
		a, b, c api.Pix
		want    bool
	}{{low, high, pt(0, 0), true}, {low, high, pt(1, 0), false}, {low, high, low, true}, {low, high, high, true}, {low, pt(most-1, most-1), high, false}, {low, low, low, true}, {low, low, high, false}, {low, low, pt(-most, 0), false}} {
		if got := predicate.Between(c.a, c.b, c.c); got != c.want {
			t.Errorf("Between(%v, %v, %v) = %t", c.a, c.b, c.c, got)
		}
	}
}

// P9.8: the position with regard to the triangle, whatever the order of its corners.
func TestInTriangle(t *testing.T) {
	check := func(a, b, c, p api.Pix) {
		want, wantCode := 0, api.ErrDegenerate
		if all := turn(a, b, c); all != 0 {
			want, wantCode = 1, api.OK
			// The signs of the weights of the corners.
			for _, weight := range []int{all * turn(p, b, c), all * turn(a, p, c), all * turn(a, b, p)} {
				want = min(want, weight)
			}
		}
		for _, l := range [][3]api.Pix{{a, b, c}, {b, a, c}, {b, c, a}} {
			if got, code := predicate.InTriangle(l[0], l[1], l[2], p); got != want || code != wantCode {
				t.Fatalf("InTriangle(%v, %v) = %d, %d, want %d", l, p, got, code, want)
			}
		}
	}
	fours(3, check)
	some(2000, func(r *rand.Rand) {
		check(random(r), random(r), random(r), random(r))
		l := inLine(r, 4)
		check(l[0], l[1], l[2], l[3])
	})
	for _, c := range []struct {
		p    api.Pix
		want int
	}{{pt(1, 1), 1}, {pt(0, 0), 0}, {pt(4, 0), 0}, {pt(0, 4), 0}, {pt(2, 0), 0}, {pt(0, 3), 0}, {pt(2, 2), 0}, {pt(3, 2), -1}, {pt(5, 0), -1}, {pt(-1, 5), -1}, {pt(0, -1), -1}} {
		if got, code := predicate.InTriangle(pt(0, 0), pt(4, 0), pt(0, 4), c.p); got != c.want || code != api.OK {
			t.Errorf("%v: %d, %d", c.p, got, code)
		}
	}
}
