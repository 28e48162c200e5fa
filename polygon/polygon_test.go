package polygon_test

import (
	"math/big"
	"math/rand"
	"slices"
	"testing"

	"fiducial/api"
	"fiducial/fraction"
	"fiducial/polygon"
)

// lists calls check with all lists of n points of the grid with three rows and columns.
func lists(n int, check func(p []api.Pix)) {
	p := make([]api.Pix, n)
	var fill func(k int)
	fill = func(k int) {
		if k == n {
			check(p)
			return
		}
		for x := range 3 {
			for y := range 3 {
				p[k] = pt(x, y)
				fill(k + 1)
			}
		}
	}
	fill(0)
}

// P10.1: all lists of points of a small grid.
func TestCheckGrid(t *testing.T) {
	for n := 3; n <= 5; n++ {
		count := 0
		lists(n, func(p []api.Pix) {
			want := api.ErrState
			for i, v := range p {
				if slices.Contains(p[:i], v) {
					want = api.ErrDuplicate
				}
			}
			if isSimple(p) {
				want = api.OK
				count++
			}
			if code := polygon.Check(p); code != want {
				t.Fatalf("Check(%v): %d, want %d", p, code, want)
			}
		})
		if count < 400 {
			t.Errorf("only %d simple polygons with %d vertices", count, n)
		}
	}
}

// P10.1: polygons with more vertices, which need not be simple.
func TestCheck(t *testing.T) {
	count := 0
	some(4000, func(r *rand.Rand) {
		p := star(r, 3+r.Intn(8), 9)
		if code := polygon.Check(p); code != api.OK {
			t.Fatalf("Check(%v): %d", p, code)
		}
		// A vertex moves, perhaps into another edge.
		p[r.Intn(len(p))] = pt(r.Intn(19)-9, r.Intn(19)-9)
		if code := polygon.Check(p); (code == api.OK) != isSimple(p) {
			t.Fatalf("Check(%v): %d", p, code)
		}
		if isSimple(p) {
			count++
		}
	})
	if count < 400 || count > 3600 {
		t.Errorf("%d polygons stay simple", count)
	}
	some(20, func(r *rand.Rand) {
		p := star(r, 64, most)
		if code := polygon.Check(p); code != api.OK {
			t.Fatalf("Check(%v): %d", p, code)
		}
	})
	corners := []api.Pix{pt(-most, -most), pt(most, -most), pt(most, most), pt(-most, most)}
	for _, p := range [][]api.Pix{triangleWith(64), corners, {corners[0], corners[2], pt(most, most-1)}, {pt(0, 0), pt(0, 1), pt(1, 0)}} {
		if code := polygon.Check(p); code != api.OK {
			t.Errorf("Check(%v): %d", p, code)
		}
	}
}

// P10.1: what is no simple polygon, with the error that comes first.
func TestCheckInvalid(t *testing.T) {
	for want, l := range invalid() {
		for _, p := range l {
			if code := polygon.Check(p); code != want {
				t.Errorf("Check(%v): %d, want %d", p, code, want)
			}
		}
	}
}

// P10.1: twice the area of any list of points.
func TestArea(t *testing.T) {
	some(3000, func(r *rand.Rand) {
		p := points(r, r.Intn(65), 9)
		if r.Intn(2) == 0 {
			for i := range p {
				p[i] = pt(r.Intn(2*most+1)-most, (1-2*r.Intn(2))*(most-r.Intn(2)))
			}
		}
		if got, code := polygon.Area(p); got != doubled(p) || code != api.OK {
			t.Fatalf("Area(%v) = %d, %d", p, got, code)
		}
	})
	for _, c := range []struct {
		p    []api.Pix
		want int
	}{
		{nil, 0}, {[]api.Pix{pt(3, 5)}, 0}, {[]api.Pix{pt(3, 5), pt(7, 7)}, 0}, {example(), 20},
		{[]api.Pix{pt(0, 0), pt(0, 1), pt(1, 0)}, -1},
		{[]api.Pix{pt(0, 0), pt(4, 4), pt(4, 0), pt(0, 4)}, 0},
		{slices.Repeat([]api.Pix{pt(-most, -most), pt(most, -most), pt(most, most), pt(-most, most)}, 16), 16 * 8 * most * most},
	} {
		if got, code := polygon.Area(c.p); got != c.want || code != api.OK {
			t.Errorf("Area(%v) = %d, %d", c.p, got, code)
		}
	}
}

// P10.1: lists of which there is no area.
func TestAreaInvalid(t *testing.T) {
	for _, bad := range outside() {
		for _, l := range [][]api.Pix{{bad}, {bad, pt(0, 0)}, {pt(0, 0), bad}, {pt(0, 0), pt(1, 0), bad, pt(3, 3)}, append(triangleWith(63), bad)} {
			if got, code := polygon.Area(l); got != 0 || code != api.ErrRange {
				t.Errorf("Area(%v) = %d, %d", l, got, code)
			}
		}
		if got, code := polygon.Area(append(triangleWith(64), bad)); got != 0 || code != api.ErrLimit {
			t.Errorf("Area of 65 points = %d, %d", got, code)
		}
	}
	if got, code := polygon.Area(triangleWith(65)); got != 0 || code != api.ErrLimit {
		t.Errorf("Area of 65 points = %d, %d", got, code)
	}
}

// P10.2: all points of the grid around a polygon, whatever its first vertex and its direction.
func TestInside(t *testing.T) {
	var count [3]int
	some(1200, func(r *rand.Rand) {
		p := simple(r)
		other := turned(r, p)
		for range 40 {
			q := pt(r.Intn(10)-1, r.Intn(10)-1)
			want := position(p, q)
			count[want+1]++
			for _, l := range [][]api.Pix{p, other} {
				if got, code := polygon.Inside(l, q); got != want || code != api.OK {
					t.Fatalf("Inside(%v, %v) = %d, %d, want %d", l, q, got, code, want)
				}
			}
		}
	})
	if min(count[0], count[1], count[2]) < 1000 {
		t.Errorf("%d points outside, on the border and inside", count)
	}
	for _, c := range []struct {
		q    api.Pix
		want int
	}{{pt(2, 2), -1}, {pt(1, 1), 1}, {pt(2, 1), 0}, {pt(0, 2), 0}, {pt(4, 4), 0}, {pt(-1, 4), -1}, {pt(1, 4), -1}, {pt(-1, 0), -1}, {pt(-1, 1), -1}} {
		if got, code := polygon.Inside(example(), c.q); got != c.want || code != api.OK {
			t.Errorf("the example: %v: %d, %d", c.q, got, code)
		}
	}
}

// P10.2: polygons that fill the range, and points next to their edges.
func TestInsideLarge(t *testing.T) {
	some(300, func(r *rand.Rand) {
		small, factor := star(r, 5+r.Intn(20), 1000), 1000
		p := make([]api.Pix, len(small))
		for i, v := range small {
			p[i] = pt(factor*v.X, factor*v.Y)
		}
		for range 10 {
			q := pt(r.Intn(2001)-1000, r.Intn(2001)-1000)
			if got, code := polygon.Inside(p, pt(factor*q.X, factor*q.Y)); got != position(small, q) || code != api.OK {
				t.Fatalf("Inside(%v) of %v = %d, %d", q, small, got, code)
			}
		}
	})
	thin := []api.Pix{pt(-most, -most), pt(most, most-1), pt(most, most)}
	for _, c := range []struct {
		q    api.Pix
		want int
	}{{pt(0, 0), 0}, {pt(most-1, most-1), 0}, {pt(most, most-1), 0}, {pt(0, 1), -1}, {pt(1, 0), -1}, {pt(most-1, most-2), -1}, {pt(-most, most), -1}, {pt(-most, -most), 0}} {
		if got, code := polygon.Inside(thin, c.q); got != c.want || code != api.OK {
			t.Errorf("%v: %d, %d", c.q, got, code)
		}
	}
}

// P10.2: Check's code comes before that for the point.
func TestInsideInvalid(t *testing.T) {
	for _, bad := range outside() {
		if got, code := polygon.Inside(example(), bad); got != 0 || code != api.ErrRange {
			t.Errorf("Inside(%v) = %d, %d", bad, got, code)
		}
		for want, l := range invalid() {
			for _, p := range l {
				if got, code := polygon.Inside(p, bad); got != 0 || code != want {
					t.Errorf("Inside(%v, %v) = %d, %d, want %d", p, bad, got, code, want)
				}
			}
		}
	}
	for _, q := range []api.Pix{pt(most, most), pt(-most, -most), pt(most, -most)} {
		if got, code := polygon.Inside(example(), q); got != -1 || code != api.OK {
			t.Errorf("Inside(%v) = %d, %d", q, got, code)
		}
	}
}

// P10.5: no edge of a convex polygon has vertices on both sides.
func TestConvex(t *testing.T) {
	var count [2]int
	check := func(p []api.Pix) {
		got, code := polygon.Convex(p)
		if got != isConvex(p) || code != api.OK {
			t.Fatalf("Convex(%v) = %t, %d", p, got, code)
		}
		if got {
			count[1]++
		} else {
			count[0]++
		}
	}
	some(2000, func(r *rand.Rand) {
		check(simple(r))
		check(refined(r, convex(r, 5)))
		check(star(r, 3+r.Intn(3), most))
	})
	if min(count[0], count[1]) < 1000 {
		t.Errorf("%d not convex and convex", count)
	}
	check(triangleWith(64))
	if got, code := polygon.Convex(example()); got || code != api.OK {
		t.Errorf("the example: %t, %d", got, code)
	}
}

// straight returns the least index of a vertex with a straight angle, -1 if there is none.
func straight(p []api.Pix) int {
	return slices.IndexFunc(p, func(v api.Pix) bool {
		i, n := slices.Index(p, v), len(p)
		return cross(p[(i+n-1)%n], v, p[(i+1)%n]) == 0
	})
}

// P10.5: one straight angle after the other is removed; area and region stay.
func TestTidy(t *testing.T) {
	removed := 0
	some(2000, func(r *rand.Rand) {
		p := simple(r)
		if len(p) < api.MaxVertices/3 {
			p = refined(r, p)
		}
		before := slices.Clone(p)
		want := slices.Clone(p)
		for i := straight(want); i >= 0; i = straight(want) {
			want = slices.Delete(want, i, i+1)
			removed++
		}
		got, code := polygon.Tidy(p)
		if code != api.OK || !slices.Equal(got, want) || !slices.Equal(p, before) {
			t.Fatalf("Tidy(%v) = %v, %d", p, got, code)
		}
		if doubled(got) != doubled(p) || polygon.Check(got) != api.OK {
			t.Fatalf("Tidy(%v) = %v has another area", p, got)
		}
		for range 20 {
			q := pt(r.Intn(20)-1, r.Intn(20)-1)
			if position(got, q) != position(p, q) {
				t.Fatalf("Tidy(%v) = %v has another region at %v", p, got, q)
			}
		}
	})
	if removed < 1000 {
		t.Errorf("only %d vertices are removed", removed)
	}
	for _, c := range []struct{ p, want []api.Pix }{
		{example(), example()},
		{triangleWith(64), []api.Pix{pt(0, 0), pt(62, 0), pt(0, 9)}},
		{[]api.Pix{pt(2, 0), pt(4, 0), pt(4, 4), pt(0, 4), pt(0, 0)}, []api.Pix{pt(4, 0), pt(4, 4), pt(0, 4), pt(0, 0)}},
		{[]api.Pix{pt(-most, -most), pt(0, 0), pt(most, most), pt(0, most), pt(-most, most), pt(-most, 1)}, []api.Pix{pt(-most, -most), pt(most, most), pt(-most, most)}},
	} {
		if got, code := polygon.Tidy(c.p); code != api.OK || !slices.Equal(got, c.want) {
			t.Errorf("Tidy(%v) = %v, %d", c.p, got, code)
		}
	}
}

// P10.5: the mean of the centres of triangles that cover the polygon, with their areas as weights.
func TestCentroid(t *testing.T) {
	check := func(p []api.Pix) {
		x, y, all := whole(0), whole(0), whole(0)
		for _, l := range mustEars(t, p) {
			a, b, c := p[l[0]], p[l[1]], p[l[2]]
			weight := whole(cross(a, b, c))
			x = plus(x, times(weight, big.NewRat(int64(a.X+b.X+c.X), 3)))
			y = plus(y, times(weight, big.NewRat(int64(a.Y+b.Y+c.Y), 3)))
			all = plus(all, weight)
		}
		got, code := polygon.Centroid(p)
		equal(t, "x", got.X, x.Quo(x, all))
		equal(t, "y", got.Y, y.Quo(y, all))
		if code != api.OK {
			t.Fatalf("Centroid(%v): %d", p, code)
		}
	}
	some(1500, func(r *rand.Rand) {
		check(simple(r))
		check(star(r, 3+r.Intn(30), most))
	})
	check(star(rand.New(rand.NewSource(1)), 64, most))
	for _, c := range []struct {
		p    []api.Pix
		x, y string
	}{
		{[]api.Pix{pt(0, 0), pt(4, 0), pt(4, 2), pt(0, 2)}, "2", "1"},
		{[]api.Pix{pt(0, 0), pt(0, 2), pt(4, 2), pt(4, 0)}, "2", "1"},
		{[]api.Pix{pt(0, 0), pt(1, 0), pt(0, 1)}, "1/3", "1/3"},
		{[]api.Pix{pt(0, 0), pt(1, 0), pt(4, 0), pt(0, 4)}, "4/3", "4/3"},
		{[]api.Pix{pt(0, 0), pt(4, 0), pt(4, 2), pt(2, 2), pt(2, 4), pt(0, 4)}, "5/3", "5/3"},
		{example(), "2", "7/5"},
		{[]api.Pix{pt(0, -most), pt(most, -most), pt(most, most), pt(0, most)}, "524288", "0"},
		{[]api.Pix{pt(-most, -most), pt(most, -most), pt(-most, most)}, "-1048576/3", "-1048576/3"},
		{[]api.Pix{pt(most, most), pt(most-1, most), pt(most, most-1)}, "3145727/3", "3145727/3"},
	} {
		got, code := polygon.Centroid(c.p)
		if code != api.OK || fraction.Text(got.X) != c.x || fraction.Text(got.Y) != c.y {
			t.Errorf("Centroid(%v) = %s, %s, %d", c.p, fraction.Text(got.X), fraction.Text(got.Y), code)
		}
	}
}
