package predicate_test

import (
	"math/big"
	"math/rand"
	"testing"

	"fiducial/api"
	"fiducial/fraction"
	"fiducial/predicate"
)

// meet fails the test if Relate and Meet are not what they should be, for all directions and the order of two segments.
func meet(t *testing.T, a, b, c, d api.Pix) api.Meeting {
	t.Helper()
	want, point := common(a, b, c, d)
	wantCode := map[api.Meeting]api.Code{api.Apart: api.ErrMissing, api.Overlap: api.ErrState}[want]
	for _, l := range [][4]api.Pix{{a, b, c, d}, {b, a, c, d}, {a, b, d, c}, {c, d, a, b}, {d, c, b, a}} {
		if got, code := predicate.Relate(l[0], l[1], l[2], l[3]); got != want || code != api.OK {
			t.Fatalf("Relate(%v) = %d, %d, want %d", l, got, code, want)
		}
		got, code := predicate.Meet(l[0], l[1], l[2], l[3])
		if code != wantCode {
			t.Fatalf("Meet(%v): %d, want %d", l, code, wantCode)
		}
		if code != api.OK {
			if !isBlank(got.X) || !isBlank(got.Y) {
				t.Fatalf("Meet(%v) = %v, %d", l, got, code)
			}
			continue
		}
		equal(t, "x", got.X, point.x)
		equal(t, "y", got.Y, point.y)
	}
	return want
}

// P9.4, P9.5: all segments of a small grid, those of length 0 too.
func TestSegmentsOfGrid(t *testing.T) {
	var count [4]int
	fours(3, func(a, b, c, d api.Pix) { count[meet(t, a, b, c, d)]++ })
	for kind, n := range count {
		if n < 100 {
			t.Errorf("only %d of the kind %d", n, kind)
		}
	}
}

// P9.4, P9.5: segments of all lengths, many almost parallel.
func TestSegments(t *testing.T) {
	var count [4]int
	some(2500, func(r *rand.Rand) {
		count[meet(t, random(r), random(r), random(r), random(r))]++
		l := inLine(r, 4)
		count[meet(t, l[0], l[1], l[2], l[3])]++
		// An end on or next to the other segment.
		k := r.Intn(7)
		end := pt(l[0].X+k*((l[1].X-l[0].X)/7), l[0].Y+k*((l[1].Y-l[0].Y)/7))
		count[meet(t, l[0], l[1], end, random(r))]++
	})
	for kind, n := range count {
		if n < 100 {
			t.Errorf("only %d of the kind %d", n, kind)
		}
	}
}

// P9.4, P9.5: the examples, and segments across the whole range.
func TestSegmentExamples(t *testing.T) {
	for _, c := range []struct {
		a, b, c, d api.Pix
		want       api.Meeting
		x, y       string
	}{
		{pt(0, 0), pt(4, 4), pt(4, 0), pt(0, 4), api.Cross, "2", "2"},
		{pt(0, 0), pt(4, 0), pt(2, 0), pt(2, 3), api.Touch, "2", "0"},
		{pt(0, 0), pt(4, 0), pt(3, 0), pt(9, 0), api.Overlap, "", ""},
		{pt(0, 0), pt(4, 0), pt(4, 0), pt(9, 0), api.Touch, "4", "0"},
		{pt(0, 0), pt(4, 0), pt(5, 0), pt(9, 0), api.Apart, "", ""},
		{pt(0, 0), pt(4, 0), pt(0, 1), pt(4, 1), api.Apart, "", ""},
		{pt(0, 0), pt(4, 0), pt(2, 1), pt(2, 3), api.Apart, "", ""},
		{pt(0, 0), pt(4, 0), pt(5, -1), pt(5, 3), api.Apart, "", ""},
		{pt(0, 0), pt(4, 0), pt(0, 0), pt(4, 0), api.Overlap, "", ""},
		{pt(0, 0), pt(4, 0), pt(4, 0), pt(0, 0), api.Overlap, "", ""},
		{pt(0, 0), pt(9, 9), pt(2, 2), pt(3, 3), api.Overlap, "", ""},
		{pt(1, 1), pt(1, 1), pt(0, 0), pt(3, 3), api.Touch, "1", "1"},
		{pt(3, 3), pt(3, 3), pt(0, 0), pt(3, 3), api.Touch, "3", "3"},
		{pt(4, 4), pt(4, 4), pt(0, 0), pt(3, 3), api.Apart, "", ""},
		{pt(1, 2), pt(1, 2), pt(0, 0), pt(3, 3), api.Apart, "", ""},
		{pt(1, 2), pt(1, 2), pt(1, 2), pt(1, 2), api.Touch, "1", "2"},
		{pt(1, 2), pt(1, 2), pt(1, 3), pt(1, 3), api.Apart, "", ""},
		{pt(0, 0), pt(3, 1), pt(1, 0), pt(1, 1), api.Cross, "1", "1/3"},
		{pt(-most, -most), pt(most, most-1), pt(-most, -most+1), pt(most, most), api.Apart, "", ""},
		{pt(-most, -most), pt(most, most), pt(-most, -most+1), pt(most, most-1), api.Cross, "0", "0"},
		{pt(-most, -most), pt(most, most), pt(-most+1, -most), pt(most-1, most), api.Cross, "0", "0"},
		{pt(-most, -most), pt(most, most), pt(-most, -most+1), pt(most-1, most-2), api.Cross, "-1/2", "-1/2"},
		{pt(-most, -most), pt(most, most), pt(most-1, most-1), pt(most, -most), api.Touch, "1048575", "1048575"},
	} {
		meet(t, c.a, c.b, c.c, c.d)
		got, code := predicate.Relate(c.a, c.b, c.c, c.d)
		if got != c.want || code != api.OK {
			t.Errorf("Relate(%v, %v, %v, %v) = %d, %d", c.a, c.b, c.c, c.d, got, code)
		}
		if point, code := predicate.Meet(c.a, c.b, c.c, c.d); code == api.OK && (fraction.Text(point.X) != c.x || fraction.Text(point.Y) != c.y) {
			t.Errorf("Meet(%v, %v, %v, %v) = %s, %s", c.a, c.b, c.c, c.d, fraction.Text(point.X), fraction.Text(point.Y))
		}
	}
}

// P9.7: the distance of the point of the segment that is nearest, in either direction.
func TestNear(t *testing.T) {
	check := func(a, b, p api.Pix) {
		from, along := vectorOf(a), vectorOf(b).less(vectorOf(a))
		distance := func(t *big.Rat) *big.Rat {
			way := from.moved(t, along).less(vectorOf(p))
			return way.dot(way)
		}
		at := whole(0)
		if a != b {
			at.Quo(along.dot(vectorOf(p).less(from)), along.dot(along))
		}
		if at.Sign() < 0 {
			at = whole(0)
		}
		if at.Cmp(whole(1)) > 0 {
			at = whole(1)
		}
		want := distance(at)
		for k := range 9 {
			if distance(big.NewRat(int64(k), 8)).Cmp(want) < 0 {
				t.Fatalf("the distance of %v from %v, %v is less than %s", p, a, b, want)
			}
		}
		for _, ends := range [][2]api.Pix{{a, b}, {b, a}} {
			got, code := predicate.Near(ends[0], ends[1], p)
			equal(t, "Near", got, want)
			if code != api.OK {
				t.Fatalf("Near(%v, %v): %d", ends, p, code)
			}
		}
	}
	threes(4, check)
	some(2000, func(r *rand.Rand) {
		check(random(r), random(r), random(r))
		l := inLine(r, 3)
		check(l[0], l[1], l[2])
	})
	for _, c := range []struct {
		a, b, p api.Pix
		want    string
	}{
		{pt(0, 0), pt(4, 0), pt(6, 1), "5"},
		{pt(0, 0), pt(4, 0), pt(1, 3), "9"},
		{pt(0, 0), pt(2, 1), pt(0, 5), "20"},
		{pt(0, 0), pt(4, 0), pt(-1, 1), "2"},
		{pt(0, 0), pt(4, 0), pt(2, 0), "0"},
		{pt(0, 0), pt(2, 1), pt(1, 1), "1/5"},
		{pt(3, 3), pt(3, 3), pt(0, -1), "25"},
		{pt(3, 3), pt(3, 3), pt(3, 3), "0"},
		{pt(-most, -most), pt(-most, -most), pt(most, most), "8796093022208"},
		{pt(-most, -most), pt(most, most), pt(-most, most), "2199023255552"},
		{pt(-most, -most), pt(most, most-1), pt(most-1, most), "17592177655809/8796088827905"},
	} {
		check(c.a, c.b, c.p)
		if got, code := predicate.Near(c.a, c.b, c.p); fraction.Text(got) != c.want || code != api.OK {
			t.Errorf("Near(%v, %v, %v) = %s, %d", c.a, c.b, c.p, fraction.Text(got), code)
		}
	}
}
