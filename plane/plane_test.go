package plane_test

import (
	"math"
	"testing"

	"fiducial/api"
	"fiducial/plane"
)

// most is the greatest magnitude of a coordinate.
const most = 1 << 20

// pt is a point.
func pt(x, y int) api.Pix {
	return api.Pix{X: x, Y: y}
}

// Any point has a place in range or not, near the ends of the range and of the numbers.
func TestInRange(t *testing.T) {
	for _, x := range []int{0, 1, -1, most, -most} {
		if !plane.InRange(pt(x, 0)) || !plane.InRange(pt(0, x)) {
			t.Errorf("%d is not in range", x)
		}
	}
	for _, x := range []int{most + 1, -most - 1, 1 << 32, math.MaxInt, math.MinInt} {
		if plane.InRange(pt(x, 0)) || plane.InRange(pt(0, x)) || plane.InRange(pt(x, x)) {
			t.Errorf("%d is in range", x)
		}
	}
}

// Points are compared by x first.
func TestCompare(t *testing.T) {
	sorted := []api.Pix{pt(-most, most), pt(-1, 5), pt(0, -most), pt(0, 0), pt(0, 1), pt(1, -7), pt(most, -most)}
	for i, a := range sorted {
		for k, b := range sorted {
			want := 0
			if i < k {
				want = -1
			}
			if i > k {
				want = 1
			}
			if got := plane.Compare(a, b); got != want {
				t.Errorf("Compare(%v, %v) = %d", a, b, got)
			}
		}
	}
}

// Products fit into 64 bits across the whole range.
func TestProducts(t *testing.T) {
	low, high, other := pt(-most, -most), pt(most, most), pt(-most, most)
	for _, c := range []struct{ got, want int }{
		{plane.Cross(low, high, other), 1 << 42},
		{plane.Cross(low, other, high), -1 << 42},
		{plane.Cross(low, pt(0, 0), high), 0},
		{plane.Dot(low, high, high), 1 << 43},
		{plane.Dot(low, high, other), 1 << 42},
		{plane.Dot(pt(0, 0), low, high), -1 << 41},
		{plane.Dot(pt(0, 0), other, high), 0},
		{plane.Turn(low, high, other), 1},
		{plane.Turn(low, other, high), -1},
		{plane.Turn(low, pt(0, 0), high), 0},
	} {
		if c.got != c.want {
			t.Errorf("%d, want %d", c.got, c.want)
		}
	}
}

// One case of each kind; layers 9 and 10 have the others.
func TestPositions(t *testing.T) {
	a, b, c, middle := pt(0, 0), pt(4, 0), pt(0, 4), pt(2, 0)
	for _, x := range []struct{ got, want api.Meeting }{
		{plane.Relate(a, b, c, middle), api.Touch},
		{plane.Relate(a, pt(4, 4), b, c), api.Cross},
		{plane.Relate(a, b, middle, pt(9, 0)), api.Overlap},
		{plane.Relate(a, a, b, b), api.Apart},
		{plane.Relate(a, a, a, a), api.Touch},
	} {
		if x.got != x.want {
			t.Errorf("Relate: %d, want %d", x.got, x.want)
		}
	}
	for _, x := range []struct {
		p    api.Pix
		want int
	}{{pt(1, 1), 1}, {middle, 0}, {a, 0}, {pt(5, 0), -1}, {pt(3, 3), -1}} {
		if got := plane.Position(a, b, c, x.p); got != x.want {
			t.Errorf("Position of %v: %d, want %d", x.p, got, x.want)
		}
		if got := plane.Position(a, c, b, x.p); got != x.want {
			t.Errorf("Position of %v: %d, want %d", x.p, got, x.want)
		}
	}
	if !plane.Between(a, b, middle) || !plane.Between(a, b, a) || plane.Between(a, b, pt(5, 0)) || plane.Between(a, b, pt(2, 1)) {
		t.Error("Between")
	}
}
