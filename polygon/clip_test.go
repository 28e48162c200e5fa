package polygon_test

import (
	"math/big"
	"math/rand"
	"slices"
	"testing"

	"fiducial/api"
	"fiducial/fraction"
	"fiducial/polygon"
)

// P10.6: twice the area of a list of points with fractions.
func TestSize(t *testing.T) {
	some(2000, func(r *rand.Rand) {
		p := randomPlaces(r)
		got, code := polygon.Size(p)
		equal(t, "Size", got, size(vectors(p)))
		if code != api.OK {
			t.Fatalf("Size(%s): %d", text(p), code)
		}
	})
	for _, c := range []struct{ p, want string }{
		{"", "0"}, {"5,7/2", "0"}, {"5,7/2 1/3,1", "0"}, {"0,0 1,0 0,1", "1"}, {"0,0 0,1/2 1,0", "-1/2"},
		{"0,0 4,0 4,4 2,1 0,4", "20"}, {"0,0 4,4 4,0 0,4", "0"}, {"1/2,1/3 5/2,1/3 5/2,4/3 1/2,4/3", "4"},
	} {
		if got, code := polygon.Size(places(c.p)); fraction.Text(got) != c.want || code != api.OK {
			t.Errorf("Size(%s) = %s, %d", c.p, fraction.Text(got), code)
		}
	}
	square := slices.Repeat(places("0,0 4,0 4,4 0,4"), 32)
	if got, code := polygon.Size(square); fraction.Text(got) != "1024" || code != api.OK {
		t.Errorf("Size of 128 points = %s, %d", fraction.Text(got), code)
	}
}

// cutBy is what lies to the left of the line from a to b.
func cutBy(l []vector, a, b api.Place) []vector {
	ends := vectors([]api.Place{a, b})
	x, y := minus(ends[0].y, ends[1].y), minus(ends[1].x, ends[0].x)
	return cut(l, x, y, plus(times(x, ends[0].x), times(y, ends[0].y)))
}

// P10.6: the points to the left of any line in their order; the sizes of both sides add up, for lists of any form.
func TestClip(t *testing.T) {
	var count [3]int
	check := func(p []api.Place, a, b api.Place) {
		before := text(p)
		sum := whole(0)
		for _, line := range [][2]api.Place{{a, b}, {b, a}} {
			got, code := polygon.Clip(p, line[0], line[1])
			want := textOf(cutBy(vectors(p), line[0], line[1]))
			if text(got) != want || code != api.OK {
				t.Fatalf("Clip(%s, %s) = %s, %d, want %s", before, text(line[:]), text(got), code, want)
			}
			count[min(2, len(got))]++
			sum = plus(sum, size(vectors(got)))
		}
		if all := size(vectors(p)); sum.Cmp(all) != 0 || text(p) != before {
			t.Fatalf("Clip(%s, %s): the parts add up to %s, not %s; now %s", before, text([]api.Place{a, b}), sum.RatString(), all.RatString(), text(p))
		}
	}
	some(1000, func(r *rand.Rand) {
		a, b := randomPlace(r), randomPlace(r)
		if text([]api.Place{a}) != text([]api.Place{b}) {
			check(randomPlaces(r), a, b)
			// Vertices on the line.
			check(append(randomPlaces(r), a, randomPlace(r), b), a, b)
		}
		line := placesOf(points(r, 2, 4))
		if text(line[:1]) != text(line[1:]) {
			check(placesOf(simple(r)), line[0], line[1])
			check(placesOf(points(r, 1+r.Intn(9), 4)), line[0], line[1])
		}
	})
	if min(count[0], count[1], count[2]) < 100 {
		t.Errorf("%d parts without points, with one point and with more", count)
	}
}

// P10.6: which points are kept and inserted, and in which order.
func TestClipExamples(t *testing.T) {
	square := "0,0 4,0 4,4 0,4"
	for _, c := range []struct{ p, line, want string }{
		{square, "2,0 2,4", "0,0 2,0 2,4 0,4"},
		{square, "2,4 2,0", "2,0 4,0 4,4 2,4"},
		{square, "2,-9 2,-8", "0,0 2,0 2,4 0,4"},
		{square, "0,2 4,2", "4,2 4,4 0,4 0,2"},
		{square, "4,2 0,2", "0,0 4,0 4,2 0,2"},
		{square, "0,0 4,4", "0,0 4,4 0,4"},
		{square, "4,4 0,0", "0,0 4,0 4,4"},
		{square, "0,0 4,0", square},
		{square, "4,0 0,0", "0,0 4,0"},
		{square, "5,0 5,1", square},
		{square, "-1,0 -1,1", ""},
		{square, "1,0 0,1", "0,0 1,0 0,1"},
		{square, "0,1/2 4,1", "4,1 4,4 0,4 0,1/2"},
		{"0,4 4,4 4,0 0,0", "2,0 2,4", "0,4 2,4 2,0 0,0"},
		{"0,0 3,1 0,3", "1,0 1,1", "0,0 1,1/3 1,7/3 0,3"},
		// Two parts, which a line along the border connects.
		{"0,0 4,0 4,4 2,1 0,4", "4,2 0,2", "0,0 4,0 4,2 8/3,2 2,1 4/3,2 0,2"},
		{"0,0 4,0 4,4 2,1 0,4", "0,2 4,2", "4,2 4,4 8/3,2 4/3,2 0,4 0,2"},
		{"0,0 4,0", "1,0 1,1", "0,0 1,0 1,0"},
		{"0,0 4,0", "1,1 1,0", "1,0 4,0 1,0"},
		{"0,0", "1,0 1,1", "0,0"}, {"1,5", "1,0 1,1", "1,5"}, {"2,0", "1,0 1,1", ""},
		{"", "1,0 1,1", ""},
		{"1,0 1,0 1,7", "1,0 1,1", "1,0 1,0 1,7"},
	} {
		line := places(c.line)
		if got, code := polygon.Clip(places(c.p), line[0], line[1]); text(got) != c.want || code != api.OK {
			t.Errorf("Clip(%s, %s) = %s, %d, want %s", c.p, c.line, text(got), code, c.want)
		}
	}
	many := slices.Repeat(places("0,0 4,0"), 64)
	if got, code := polygon.Clip(many, places("1,0")[0], places("1,1")[0]); len(got) != 64+128 || code != api.OK {
		t.Errorf("Clip of 128 points: %d points, %d", len(got), code)
	}
}

// P10.6: coordinates that are not canonical, too many points, no line, in this order.
func TestPlacesInvalid(t *testing.T) {
	a, b := places("0,0")[0], places("1,1")[0]
	good, long := places("0,0 4,0 4,4 0,4"), slices.Repeat(places("0,0 4,0 4,4"), 43)
	clip := func(what string, want api.Code, p []api.Place, a, b api.Place) {
		t.Helper()
		if got, code := polygon.Clip(p, a, b); len(got) != 0 || code != want {
			t.Errorf("Clip, %s: %d points, %d, want %d", what, len(got), code, want)
		}
	}
	sized := func(what string, want api.Code, p []api.Place) {
		t.Helper()
		if got, code := polygon.Size(p); !isBlank(got) || code != want {
			t.Errorf("Size, %s: %v, %d, want %d", what, got, code, want)
		}
	}
	for _, x := range notCanonical() {
		for _, bad := range []api.Place{{X: x, Y: fraction.Whole(1)}, {X: fraction.Whole(1), Y: x}} {
			for _, l := range [][]api.Place{nil, good, long} {
				clip("a bad line", api.ErrArgument, l, bad, b)
				clip("a bad line", api.ErrArgument, l, a, bad)
				clip("a bad line", api.ErrArgument, l, bad, bad)
				for k := range len(l) {
					p := slices.Clone(l)
					p[k] = bad
					clip("a bad point", api.ErrArgument, p, a, a)
					sized("a bad point", api.ErrArgument, p)
				}
			}
		}
	}
	clip("129 points", api.ErrLimit, long, a, b)
	clip("129 points and no line", api.ErrLimit, long, a, a)
	sized("129 points", api.ErrLimit, long)
	for _, l := range [][]api.Place{nil, good, long[:128]} {
		clip("no line", api.ErrDegenerate, l, a, a)
		clip("no line", api.ErrDegenerate, l, b, b)
	}
	clip("a line along x", api.OK, nil, a, places("1,0")[0])
	clip("a line along y", api.OK, nil, a, places("0,-1/3")[0])
}

// window is the definition of Window.
func window(p []api.Pix, low, high api.Pix) []vector {
	one, zero := whole(1), whole(0)
	negative := func(x *big.Rat) *big.Rat { return minus(zero, x) }
	l := cut(vectors(placesOf(p)), one, zero, whole(low.X))
	l = cut(l, negative(one), zero, whole(-high.X))
	l = cut(l, zero, one, whole(low.Y))
	return cut(l, zero, negative(one), whole(-high.Y))
}

// P10.6: the four sides one after the other.
func TestWindow(t *testing.T) {
	var count [2]int
	check := func(p []api.Pix, low, high api.Pix) {
		before := slices.Clone(p)
		got, code := polygon.Window(p, low, high)
		if want := textOf(window(p, low, high)); code != api.OK || text(got) != want || !slices.Equal(p, before) {
			t.Fatalf("Window(%v, %v, %v) = %s, %d, want %s", p, low, high, text(got), code, want)
		}
		count[min(1, len(got))]++
	}
	some(2000, func(r *rand.Rand) {
		low := pt(r.Intn(11)-3, r.Intn(11)-3)
		check(simple(r), low, pt(low.X+1+r.Intn(4), low.Y+1+r.Intn(4)))
		low = pt(r.Intn(most)-most, r.Intn(most)-most)
		check(star(r, 3+r.Intn(9), most), low, pt(r.Intn(most)+1, r.Intn(most)+1))
	})
	if min(count[0], count[1]) < 100 {
		t.Errorf("%d parts without points and with some", count)
	}
	all := []api.Pix{pt(-most, -most), pt(most, -most), pt(most, most), pt(-most, most)}
	check(all, all[0], all[2])
	check(all, pt(most-1, most-1), pt(most, most))
}

// P10.6: the example, the first vertex of a part, and the direction of the polygon.
func TestWindowExamples(t *testing.T) {
	square := []api.Pix{pt(0, 0), pt(4, 0), pt(4, 4), pt(0, 4)}
	backwards := []api.Pix{pt(0, 4), pt(4, 4), pt(4, 0), pt(0, 0)}
	for _, c := range []struct {
		p          []api.Pix
		low, high  api.Pix
		want, size string
	}{
		{square, pt(2, -1), pt(9, 2), "2,0 4,0 4,2 2,2", "8"},
		{backwards, pt(2, -1), pt(9, 2), "4,2 4,0 2,0 2,2", "-8"},
		{square, pt(0, 0), pt(4, 4), "0,0 4,0 4,4 0,4", "32"},
		{square, pt(1, 1), pt(3, 3), "3,1 3,3 1,3 1,1", "8"},
		{square, pt(4, 0), pt(5, 1), "4,0 4,1 4,1", "0"},
		{square, pt(5, 0), pt(6, 1), "", "0"},
		{square, pt(-2, 0), pt(-1, 1), "", "0"},
		{square, pt(0, 5), pt(4, 6), "", "0"},
		{square, pt(0, -2), pt(4, -1), "", "0"},
		{example(), pt(0, 2), pt(4, 3), "4,2 4,3 10/3,3 8/3,2 4/3,2 2/3,3 0,3 0,2", "4"},
	} {
		got, code := polygon.Window(c.p, c.low, c.high)
		if text(got) != c.want || code != api.OK || size(vectors(got)).RatString() != c.size {
			t.Errorf("Window(%v, %v, %v) = %s with the size %s, %d", c.p, c.low, c.high, text(got), size(vectors(got)).RatString(), code)
		}
	}
}

// angles returns a polygon of 63 vertices: angles inside one another whose corners lie to the left and below a window. One side of each passes the left side of the window, the other one passes the lower side.
func angles() []api.Pix {
	var l []api.Pix
	for i := range 31 {
		far := pt(2000, 2900-20*i)
		if i%2 == 1 {
			far = pt(2000, 1100+20*i)
		}
		l = append(l, far, pt(-1000+10*i, -1000+10*i))
	}
	return append(l, pt(5000, 4430))
}

// P10.6: parts with more vertices than Clip takes, on the way and in the end.
func TestWindowOfMany(t *testing.T) {
	p, low, high := angles(), pt(0, 0), pt(1000, 4000)
	if code := polygon.Check(p); code != api.OK || len(p) != 63 {
		t.Fatalf("Check: %d", code)
	}
	got, code := polygon.Window(p, low, high)
	if want := window(p, low, high); code != api.OK || text(got) != textOf(want) || len(got) <= 128 {
		t.Errorf("Window has %d vertices, %d, want %d", len(got), code, len(want))
	}
}

// P10.7: the part of a convex polygon lies in the window and in the polygon, and is not larger than these.
func TestWindowOfConvex(t *testing.T) {
	some(1500, func(r *rand.Rand) {
		p := convex(r, 9)
		low := pt(r.Intn(17)-9, r.Intn(17)-9)
		high := pt(low.X+1+r.Intn(9), low.Y+1+r.Intn(9))
		got, code := polygon.Window(p, low, high)
		part := new(big.Rat).Abs(size(vectors(got)))
		if code != api.OK || part.Cmp(whole(2*(high.X-low.X)*(high.Y-low.Y))) > 0 || part.Cmp(new(big.Rat).Abs(whole(doubled(p)))) > 0 {
			t.Fatalf("Window(%v, %v, %v) has the size %s, %d", p, low, high, part.RatString(), code)
		}
		for _, v := range vectors(got) {
			if v.x.Cmp(whole(low.X)) < 0 || v.x.Cmp(whole(high.X)) > 0 || v.y.Cmp(whole(low.Y)) < 0 || v.y.Cmp(whole(high.Y)) > 0 {
				t.Fatalf("Window(%v, %v, %v) has the vertex %s", p, low, high, textOf([]vector{v}))
			}
			for i, a := range p {
				b := p[(i+1)%len(p)]
				side := minus(times(whole(b.X-a.X), minus(v.y, whole(a.Y))), times(whole(b.Y-a.Y), minus(v.x, whole(a.X))))
				if side.Sign()*sign(doubled(p)) < 0 {
					t.Fatalf("Window(%v, %v, %v) has the vertex %s", p, low, high, textOf([]vector{v}))
				}
			}
		}
	})
}

// P10.6: Check's code, then the range of the window, then its order.
func TestWindowInvalid(t *testing.T) {
	expect := func(want api.Code, p []api.Pix, low, high api.Pix) {
		t.Helper()
		if got, code := polygon.Window(p, low, high); len(got) != 0 || code != want {
			t.Errorf("Window(%v, %v, %v): %d points, %d, want %d", p, low, high, len(got), code, want)
		}
	}
	windows := [][2]api.Pix{{pt(0, 0), pt(0, 4)}, {pt(0, 0), pt(4, 0)}, {pt(0, 0), pt(0, 0)}, {pt(5, 0), pt(4, 4)}, {pt(0, 5), pt(4, 4)}, {pt(4, 4), pt(0, 0)}, {pt(most, 0), pt(most, 4)}}
	for _, w := range windows {
		expect(api.ErrOrder, example(), w[0], w[1])
	}
	for _, bad := range outside() {
		for _, good := range []api.Pix{pt(0, 0), pt(most, most), pt(-most, -most)} {
			expect(api.ErrRange, example(), bad, good)
			expect(api.ErrRange, example(), good, bad)
		}
		expect(api.ErrRange, example(), bad, bad)
	}
	for want, l := range invalid() {
		for _, p := range l {
			expect(want, p, pt(0, 0), pt(4, 4))
			expect(want, p, pt(4, 4), pt(0, 0))
			expect(want, p, pt(most+1, 0), pt(0, 0))
		}
	}
}

// P10.3, P10.5: the functions for simple polygons return Check's code first.
func TestInvalid(t *testing.T) {
	for want, l := range invalid() {
		for _, p := range l {
			ears, code := polygon.Ears(p)
			if len(ears) != 0 || code != want {
				t.Errorf("Ears(%v) = %v, %d, want %d", p, ears, code, want)
			}
			if got, code := polygon.Convex(p); got || code != want {
				t.Errorf("Convex(%v) = %t, %d, want %d", p, got, code, want)
			}
			if got, code := polygon.Tidy(p); len(got) != 0 || code != want {
				t.Errorf("Tidy(%v) = %v, %d, want %d", p, got, code, want)
			}
			if got, code := polygon.Centroid(p); !isBlank(got.X) || !isBlank(got.Y) || code != want {
				t.Errorf("Centroid(%v) = %v, %d, want %d", p, got, code, want)
			}
		}
	}
}

// parts are the numbers of some points.
func parts(l []api.Place) []api.Rat {
	var all []api.Rat
	for _, p := range l {
		all = append(all, p.X, p.Y)
	}
	return all
}

// P10.5, P10.6: arguments stay as they are, and results are new memory, no two parts of which are shared.
func TestNothingIsShared(t *testing.T) {
	some(300, func(r *rand.Rand) {
		p, a, b := randomPlaces(r), randomPlace(r), randomPlace(r)
		q := simple(r)
		arguments := append(slices.Clone(p), a, b)
		before := text(arguments)
		for i, call := range []func() []api.Rat{
			func() []api.Rat { x, _ := polygon.Size(p); return []api.Rat{x} },
			func() []api.Rat { l, _ := polygon.Clip(p, a, b); return parts(l) },
			func() []api.Rat { l, _ := polygon.Window(q, pt(1, 1), pt(3, 3)); return parts(l) },
			func() []api.Rat { x, _ := polygon.Centroid(q); return parts([]api.Place{x}) },
		} {
			numbers := call()
			var saved []*big.Rat
			for _, x := range numbers {
				saved = append(saved, bigRat(x))
			}
			for k, x := range numbers {
				equal(t, "a number that shares memory with another one", x, saved[k])
				spoil(x)
			}
			if text(arguments) != before {
				t.Fatalf("call %d changes %s", i, before)
			}
		}
		vertices := slices.Clone(q)
		corners, _ := polygon.Tidy(q)
		for k := range corners {
			corners[k] = pt(-9, -9)
		}
		_ = append(corners, pt(-9, -9))
		if !slices.Equal(q, vertices) {
			t.Fatalf("the result of Tidy is a part of %v", vertices)
		}
	})
}
