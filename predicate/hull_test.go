package predicate_test

import (
	"fmt"
	"math/rand"
	"slices"
	"testing"

	"fiducial/api"
	"fiducial/predicate"
)

// isCorner reports whether the point i of a list is a corner of the hull: it stands for all points at its place, and no segment and no triangle of other places contains it.
func isCorner(l []api.Pix, i int) bool {
	if slices.Index(l, l[i]) != i {
		return false
	}
	var others []api.Pix
	for _, p := range l {
		if p != l[i] && !slices.Contains(others, p) {
			others = append(others, p)
		}
	}
	for k, a := range others {
		for m, b := range others[:k] {
			if meeting, _ := common(a, b, l[i], l[i]); meeting != api.Apart {
				return false
			}
			for _, c := range others[:m] {
				all := turn(a, b, c)
				if all != 0 && all*turn(a, b, l[i]) > 0 && all*turn(b, c, l[i]) > 0 && all*turn(c, a, l[i]) > 0 {
					return false
				}
			}
		}
	}
	return true
}

// isLess reports whether a is lexicographically less than b.
func isLess(a, b api.Pix) bool {
	return a.X < b.X || a.X == b.X && a.Y < b.Y
}

// around fails the test if the corners of a hull do not begin with the least point, or do not lead around all points, counter-clockwise.
func around(t *testing.T, l []api.Pix, hull []int) {
	t.Helper()
	if len(hull) == 0 {
		t.Fatalf("Hull(%v) is empty", l)
	}
	for _, p := range l {
		if isLess(p, l[hull[0]]) {
			t.Fatalf("Hull(%v) = %d does not begin with the least point", l, hull)
		}
		for k, i := range hull {
			if turn(l[i], l[hull[(k+1)%len(hull)]], p) < 0 {
				t.Fatalf("Hull(%v) = %d does not lead around %v", l, hull, p)
			}
		}
	}
}

// P9.6: exactly the corners, in their order.
func TestHull(t *testing.T) {
	sizes := map[int]int{}
	some(2500, func(r *rand.Rand) {
		var l []api.Pix
		switch r.Intn(5) {
		case 0:
			l = inLine(r, 1+r.Intn(7))
		case 4:
			// Many are equal.
			for range 20 + r.Intn(80) {
				l = append(l, pt(r.Intn(3), r.Intn(3)))
			}
		case 1:
			for range 1 + r.Intn(7) {
				l = append(l, random(r))
			}
		default:
			n := 1 + r.Intn(4)
			for range 1 + r.Intn(9) {
				l = append(l, pt(r.Intn(n), r.Intn(n)))
			}
		}
		before := slices.Clone(l)
		got, code := predicate.Hull(l)
		if code != api.OK || !slices.Equal(l, before) {
			t.Fatalf("Hull(%v): %d, now %v", before, code, l)
		}
		around(t, l, got)
		var want []int
		for i := range l {
			if isCorner(l, i) {
				want = append(want, i)
			}
		}
		if !slices.Equal(slices.Sorted(slices.Values(got)), want) {
			t.Fatalf("Hull(%v) = %d, want %d in some order", l, got, want)
		}
		sizes[len(got)]++
	})
	for n := 1; n <= 6; n++ {
		if sizes[n] < 20 {
			t.Errorf("only %d hulls with %d corners", sizes[n], n)
		}
	}
}

// P9.6: the example, points on edges, collinear and equal points, and the corners of the range.
func TestHullExamples(t *testing.T) {
	for _, c := range []struct {
		l    []api.Pix
		want []int
	}{
		{[]api.Pix{pt(0, 0), pt(2, 0), pt(4, 0), pt(4, 4), pt(0, 4), pt(2, 2)}, []int{0, 2, 3, 4}},
		{[]api.Pix{pt(5, 5)}, []int{0}},
		{[]api.Pix{pt(5, 5), pt(5, 5), pt(5, 5)}, []int{0}},
		{[]api.Pix{pt(5, 5), pt(5, 4), pt(5, 5), pt(5, 4)}, []int{1, 0}},
		{[]api.Pix{pt(2, 2), pt(1, 1), pt(3, 3), pt(0, 0), pt(3, 3)}, []int{3, 2}},
		{[]api.Pix{pt(1, 7), pt(1, 9), pt(1, 8)}, []int{0, 1}},
		{[]api.Pix{pt(4, 4), pt(0, 4), pt(0, 0), pt(4, 0), pt(0, 0), pt(4, 4)}, []int{2, 3, 0, 1}},
		{[]api.Pix{pt(0, 1), pt(0, 3), pt(0, 2), pt(0, 0), pt(1, 0), pt(2, 0), pt(1, 1), pt(1, 2)}, []int{3, 5, 7, 1}},
		{[]api.Pix{pt(most, most), pt(0, 0), pt(most, -most), pt(-most, most), pt(-most, -most), pt(most, 1)}, []int{4, 2, 0, 3}},
		{[]api.Pix{pt(-most, -most), pt(0, 0), pt(most, most-1), pt(0, -1)}, []int{0, 3, 2, 1}},
	} {
		if got, code := predicate.Hull(c.l); code != api.OK || !slices.Equal(got, c.want) {
			t.Errorf("Hull(%v) = %d, %d, want %d", c.l, got, code, c.want)
		}
	}
}

// P9.6: 1024 points are not too many, all on a parabola.
func TestHullOfMany(t *testing.T) {
	var l []api.Pix
	for i := range 1024 {
		x := (i*5+3)%1024 - 512
		l = append(l, pt(x, x*x-most/2))
	}
	got, code := predicate.Hull(l)
	if code != api.OK || len(got) != len(l) {
		t.Fatalf("Hull: %d corners, %d", len(got), code)
	}
	for k, i := range got {
		if l[i].X != k-512 {
			t.Fatalf("the corner %d is %v", k, l[i])
		}
	}
	// The errors come in this order: no points, too many, points out of range.
	bad := append(slices.Clone(l[1:]), pt(most+1, 0))
	for _, c := range []struct {
		l    []api.Pix
		want api.Code
	}{{nil, api.ErrArgument}, {[]api.Pix{}, api.ErrArgument}, {bad, api.ErrRange}, {append(slices.Clone(l), pt(0, 0)), api.ErrLimit}, {append(slices.Clone(bad), pt(0, 0)), api.ErrLimit}} {
		if got, code := predicate.Hull(c.l); code != c.want || len(got) != 0 {
			t.Errorf("Hull of %d points: %s, %d, want %d", len(c.l), fmt.Sprint(got), code, c.want)
		}
	}
}
