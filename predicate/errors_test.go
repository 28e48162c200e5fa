package predicate_test

import (
	"slices"
	"testing"

	"fiducial/api"
	"fiducial/predicate"
)

// function is a function of so many points; it returns whether all results beside the code are zero.
type function struct {
	name   string
	points int
	call   func(l []api.Pix) (bool, api.Code)
}

// coded are the functions with a code.
func coded() []function {
	return []function{
		{"Check", 4, func(l []api.Pix) (bool, api.Code) { return true, predicate.Check(l...) }},
		{"Relate", 4, func(l []api.Pix) (bool, api.Code) {
			m, code := predicate.Relate(l[0], l[1], l[2], l[3])
			return m == 0, code
		}},
		{"Meet", 4, func(l []api.Pix) (bool, api.Code) {
			p, code := predicate.Meet(l[0], l[1], l[2], l[3])
			return isBlank(p.X) && isBlank(p.Y), code
		}},
		{"Hull", 4, func(l []api.Pix) (bool, api.Code) { h, code := predicate.Hull(l); return len(h) == 0, code }},
		{"Near", 3, func(l []api.Pix) (bool, api.Code) {
			x, code := predicate.Near(l[0], l[1], l[2])
			return isBlank(x), code
		}},
		{"InTriangle", 4, func(l []api.Pix) (bool, api.Code) {
			n, code := predicate.InTriangle(l[0], l[1], l[2], l[3])
			return n == 0, code
		}},
	}
}

// uncoded are the functions without a code, which return 0 or false if a point is not in range.
func uncoded() []function {
	return []function{
		{"Orient", 3, func(l []api.Pix) (bool, api.Code) { return predicate.Orient(l[0], l[1], l[2]) == 0, api.ErrRange }},
		{"Circle", 4, func(l []api.Pix) (bool, api.Code) { return predicate.Circle(l[0], l[1], l[2], l[3]) == 0, api.ErrRange }},
		{"Between", 3, func(l []api.Pix) (bool, api.Code) { return !predicate.Between(l[0], l[1], l[2]), api.ErrRange }},
	}
}

// P9.1 to P9.8: a point that is not in range, in each place, comes before all other errors.
func TestOutOfRange(t *testing.T) {
	// Triangles and circles, segments that cross, overlap and lie apart, and collinear points.
	lists := [][]api.Pix{
		{pt(0, 0), pt(4, 0), pt(0, 4), pt(1, 1)},
		{pt(0, 0), pt(4, 4), pt(4, 0), pt(0, 4)},
		{pt(0, 0), pt(1, 0), pt(2, 0), pt(3, 0)},
		{pt(0, 0), pt(most, 0), pt(-most, 0), pt(3, 0)},
		{pt(5, 5), pt(5, 5), pt(5, 5), pt(5, 5)},
	}
	for _, f := range slices.Concat(coded(), uncoded()) {
		for _, points := range lists {
			for _, bad := range outside() {
				for k := range f.points {
					l := slices.Clone(points)
					l[k] = bad
					if isZero, code := f.call(l); code != api.ErrRange || !isZero {
						t.Errorf("%s(%v): %d; zero %t", f.name, l[:f.points], code, isZero)
					}
				}
			}
			l := slices.Repeat([]api.Pix{pt(most+1, 0)}, 4)
			if isZero, code := f.call(l); code != api.ErrRange || !isZero {
				t.Errorf("%s(%v): %d; zero %t", f.name, l, code, isZero)
			}
		}
	}
}

// P9.1 to P9.3: points with x and y out of range all on one line, or beyond the ends of the range by one.
func TestBeyondTheEnds(t *testing.T) {
	x := most + 1
	if predicate.Between(pt(0, 0), pt(x, 0), pt(1, 0)) || predicate.Between(pt(x, 0), pt(x, 0), pt(x, 0)) || predicate.Between(pt(0, -x), pt(0, 1), pt(0, 0)) {
		t.Error("Between with a point that is not in range")
	}
	if predicate.Orient(pt(0, 0), pt(x, 0), pt(0, 1)) != 0 || predicate.Orient(pt(0, -x), pt(1, 0), pt(0, 1)) != 0 {
		t.Error("Orient with a point that is not in range")
	}
	if predicate.Circle(pt(-x, 0), pt(x, 0), pt(0, most), pt(0, 0)) != 0 || predicate.Circle(pt(0, 0), pt(1, 0), pt(0, 1), pt(x, x)) != 0 {
		t.Error("Circle with a point that is not in range")
	}
}

// P9.8: collinear corners.
func TestNoTriangle(t *testing.T) {
	for _, l := range [][3]api.Pix{{pt(0, 0), pt(1, 1), pt(5, 5)}, {pt(0, 0), pt(0, 0), pt(5, 4)}, {pt(0, 0), pt(5, 4), pt(0, 0)}, {pt(3, 3), pt(3, 3), pt(3, 3)}, {pt(-most, -most), pt(most, most), pt(0, 0)}} {
		for _, p := range []api.Pix{pt(0, 0), pt(3, 3), pt(1, 7)} {
			if n, code := predicate.InTriangle(l[0], l[1], l[2], p); n != 0 || code != api.ErrDegenerate {
				t.Errorf("InTriangle(%v, %v) = %d, %d", l, p, n, code)
			}
		}
	}
}

// P9.5, P9.7: results are new memory, and the two coordinates of a point share none.
func TestNothingIsShared(t *testing.T) {
	for _, l := range [][4]api.Pix{{pt(0, 0), pt(3, 3), pt(3, 0), pt(0, 3)}, {pt(0, 0), pt(3, 1), pt(1, 0), pt(1, 1)}, {pt(0, 0), pt(4, 4), pt(2, 2), pt(2, 3)}} {
		want, code := predicate.Meet(l[0], l[1], l[2], l[3])
		if code != api.OK {
			t.Fatalf("Meet(%v): %d", l, code)
		}
		x, y := bigRat(want.X), bigRat(want.Y)
		spoil(want.X)
		equal(t, "y", want.Y, y)
		again, _ := predicate.Meet(l[0], l[1], l[2], l[3])
		spoil(again.Y)
		equal(t, "x", again.X, x)
		last, _ := predicate.Meet(l[0], l[1], l[2], l[3])
		equal(t, "x", last.X, x)
		equal(t, "y", last.Y, y)
	}
	for _, p := range []api.Pix{pt(-1, 1), pt(1, 3), pt(9, 9)} {
		near, _ := predicate.Near(pt(0, 0), pt(3, 1), p)
		want := bigRat(near)
		spoil(near)
		again, _ := predicate.Near(pt(0, 0), pt(3, 1), p)
		equal(t, "Near", again, want)
	}
}
