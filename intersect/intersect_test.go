package intersect_test

import (
	"math/big"
	"math/rand"
	"testing"

	"fiducial/api"
	"fiducial/fraction"
	"fiducial/intersect"
)

// P25.1: Check takes any number of rays; one that is none is enough.
func TestCheck(t *testing.T) {
	if code := intersect.Check(); code != api.OK {
		t.Errorf("Check of nothing: %d", code)
	}
	some(500, func(r *rand.Rand) {
		l := raysOf(lines(r, 1+r.Intn(5)))
		before := rayText(l...)
		if code := intersect.Check(l...); code != api.OK || rayText(l...) != before {
			t.Fatalf("Check(%s) = %d", before, code)
		}
	})
	for _, bad := range invalidRays() {
		for n := range 4 {
			for i := range n + 1 {
				l := []api.Ray{ray(0, 0, 0, 1, 0, 0), ray(0, 0, 0, 0, -1, 0), ray(9, 9, 9, 0, 0, 5)}[:n:n]
				l = append(append(l[:i:i], bad), l[i:]...)
				if code := intersect.Check(l...); code != api.ErrArgument {
					t.Errorf("Check(%s) = %d", rayText(l...), code)
				}
			}
		}
	}
	many := make([]api.Ray, 1000)
	for i := range many {
		many[i] = ray(i, 0, 0, 0, i, 1)
	}
	if code := intersect.Check(many...); code != api.OK {
		t.Errorf("Check of many: %d", code)
	}
}

// P25.1: the points of a ray.
func TestAt(t *testing.T) {
	some(3000, func(r *rand.Rand) {
		a, s := random(r), number(r)
		p, code := intersect.At(a.ray(), ofBig(s))
		want := a.at(s)
		if code != api.OK || text(p[:]...) != bigText(want[:]...) {
			t.Fatalf("At(%s, %s) = %s, %d", rayText(a.ray()), s, text(p[:]...), code)
		}
	})
	if p, code := intersect.At(ray(1, 2, 3, 4, 0, -2), fraction.Whole(3)); code != api.OK || text(p[:]...) != "13 2 -3" {
		t.Errorf("At = %s, %d", text(p[:]...), code)
	}
}

// P25.1: in front are the points whose vector from the origin has a positive product with the direction.
func TestFront(t *testing.T) {
	signs := map[int]int{}
	some(3000, func(r *rand.Rand) {
		a, p := random(r), vectorAt(r)
		if r.Intn(4) == 0 {
			// A point beside the origin is not in front, whether above or below.
			p = a.origin.plus(number(r), a.missed(p))
		}
		sign := p.minus(a.origin).dot(a.along).Sign()
		if got, code := intersect.Front(a.ray(), p.point()); code != api.OK || got != (sign > 0) {
			t.Fatalf("Front(%s, %s) = %t, %d", rayText(a.ray()), p, got, code)
		}
		signs[sign]++
	})
	if signs[-1] < 300 || signs[0] < 300 || signs[1] < 300 {
		t.Errorf("signs: %v", signs)
	}
	axis := ray(0, 0, 0, 1, 0, 0)
	for _, c := range []struct {
		x, y, z int
		want    bool
	}{{-1, 7, 7, false}, {0, 0, 0, false}, {0, 5, -5, false}, {1, 7, 7, true}} {
		if got, code := intersect.Front(axis, whole(c.x, c.y, c.z)); code != api.OK || got != c.want {
			t.Errorf("Front of %v = %t, %d", c, got, code)
		}
	}
}

// P25.2: the difference of the feet is orthogonal to both directions; parallel rays have none.
func TestFoot(t *testing.T) {
	codes := map[api.Code]int{}
	some(4000, func(r *rand.Rand) {
		l := lines(r, 2)
		a, b := l[0], l[1]
		s, u, code := intersect.Foot(a.ray(), b.ray())
		codes[code]++
		if isParallel(a, b) {
			if code != api.ErrDegenerate || !isZero(s, u) {
				t.Fatalf("Foot(%s) = %s, %d", rayText(a.ray(), b.ray()), text(s, u), code)
			}
			return
		}
		if code != api.OK || !fraction.Valid(s) || !fraction.Valid(u) {
			t.Fatalf("Foot(%s) = %s, %d", rayText(a.ray(), b.ray()), text(s, u), code)
		}
		d := a.at(bigOf(s)).minus(b.at(bigOf(u)))
		if d.dot(a.along).Sign() != 0 || d.dot(b.along).Sign() != 0 {
			t.Fatalf("Foot(%s) = %s", rayText(a.ray(), b.ray()), text(s, u))
		}
		// Exchanged rays have exchanged feet.
		if v, w, code := intersect.Foot(b.ray(), a.ray()); code != api.OK || text(v, w) != text(u, s) {
			t.Fatalf("Foot(%s) = %s, exchanged %s, %d", rayText(a.ray(), b.ray()), text(s, u), text(v, w), code)
		}
	})
	if codes[api.OK] < 1000 || codes[api.ErrDegenerate] < 1000 {
		t.Errorf("numbers of codes: %v", codes)
	}
}

// gapOf is the squared distance of two lines: that of a point of one from the other, if they are parallel, otherwise the square of the vector between their origins without its parts along both.
func gapOf(a, b line) *big.Rat {
	if isParallel(a, b) {
		return b.miss(a.origin)
	}
	// Of b only what is orthogonal to a counts, so that the part along a stays away.
	across := line{vector{rat(0), rat(0), rat(0)}, b.missedAlong(a)}
	rest := across.missed(a.missed(b.origin))
	return rest.dot(rest)
}

// missedAlong is the direction of b without its part along a.
func (b line) missedAlong(a line) vector {
	return line{vector{rat(0), rat(0), rat(0)}, a.along}.missed(b.along)
}

// P25.3: the squared distance of two lines; no two points of them are closer.
func TestGap(t *testing.T) {
	zeros, parallel := 0, 0
	some(4000, func(r *rand.Rand) {
		l := lines(r, 2)
		a, b := l[0], l[1]
		gap, code := intersect.Gap(a.ray(), b.ray())
		if want := gapOf(a, b); code != api.OK || text(gap) != bigText(want) {
			t.Fatalf("Gap(%s) = %s, %d, want %s", rayText(a.ray(), b.ray()), text(gap), code, want)
		}
		if other, code := intersect.Gap(b.ray(), a.ray()); code != api.OK || text(other) != text(gap) {
			t.Fatalf("Gap(%s) = %s, exchanged %s, %d", rayText(a.ray(), b.ray()), text(gap), text(other), code)
		}
		for range 5 {
			d := a.at(number(r)).minus(b.at(number(r)))
			if d.dot(d).Cmp(bigOf(gap)) < 0 {
				t.Fatalf("Gap(%s) = %s, but there are points at %s", rayText(a.ray(), b.ray()), text(gap), d.dot(d))
			}
		}
		if fraction.Sign(gap) == 0 {
			zeros++
		}
		if isParallel(a, b) {
			parallel++
			return
		}
		s, u, _ := intersect.Foot(a.ray(), b.ray())
		if d := a.at(bigOf(s)).minus(b.at(bigOf(u))); bigText(d.dot(d)) != text(gap) {
			t.Fatalf("Gap(%s) = %s, but the feet are at %s", rayText(a.ray(), b.ray()), text(gap), d.dot(d))
		}
	})
	if zeros < 500 || parallel < 1000 {
		t.Errorf("%d distances 0, %d parallel", zeros, parallel)
	}
}

// P25.3: the squared distance of a point from a line; no point of the line is closer.
func TestMiss(t *testing.T) {
	zeros := 0
	some(4000, func(r *rand.Rand) {
		a, p := random(r), vectorAt(r)
		if r.Intn(4) == 0 {
			p = a.at(number(r))
		}
		miss, code := intersect.Miss(a.ray(), p.point())
		if want := a.miss(p); code != api.OK || text(miss) != bigText(want) {
			t.Fatalf("Miss(%s, %s) = %s, %d, want %s", rayText(a.ray()), p, text(miss), code, want)
		}
		for range 5 {
			d := a.at(number(r)).minus(p)
			if d.dot(d).Cmp(bigOf(miss)) < 0 {
				t.Fatalf("Miss(%s, %s) = %s, but there is a point at %s", rayText(a.ray()), p, text(miss), d.dot(d))
			}
		}
		if fraction.Sign(miss) == 0 {
			zeros++
		}
	})
	if zeros < 500 {
		t.Errorf("%d distances 0", zeros)
	}
}

// P25.4: the squared sine of the angle, from 0 to 1, and 0 exactly for parallel rays.
func TestParallax(t *testing.T) {
	counts := map[string]int{}
	some(4000, func(r *rand.Rand) {
		l := lines(r, 2)
		a, b := l[0], l[1]
		if r.Intn(5) == 0 && !isParallel(a, b) {
			b.along = b.missedAlong(a)
		}
		parallax, code := intersect.Parallax(a.ray(), b.ray())
		if want := parallaxOf(a, b); code != api.OK || text(parallax) != bigText(want) {
			t.Fatalf("Parallax(%s) = %s, %d, want %s", rayText(a.ray(), b.ray()), text(parallax), code, want)
		}
		if other, code := intersect.Parallax(b.ray(), a.ray()); code != api.OK || text(other) != text(parallax) {
			t.Fatalf("Parallax(%s) = %s, exchanged %s, %d", rayText(a.ray(), b.ray()), text(parallax), text(other), code)
		}
		if fraction.Sign(parallax) < 0 || fraction.Compare(parallax, fraction.Whole(1)) > 0 || (fraction.Sign(parallax) == 0) != isParallel(a, b) {
			t.Fatalf("Parallax(%s) = %s", rayText(a.ray(), b.ray()), text(parallax))
		}
		if s := text(parallax); len(s) == 1 {
			counts[s]++
		}
	})
	if counts["0"] < 1000 || counts["1"] < 300 {
		t.Errorf("results: %v", counts)
	}
}

// P25.2 to P25.4: the examples of the chapter.
func TestExamples(t *testing.T) {
	axis, other := ray(0, 0, 0, 1, 0, 0), ray(0, 0, 2, 0, 1, 0)
	s, u, code := intersect.Foot(axis, other)
	gap, gapCode := intersect.Gap(axis, other)
	parallax, parallaxCode := intersect.Parallax(axis, other)
	miss, missCode := intersect.Miss(axis, whole(5, 3, 4))
	if code != api.OK || gapCode != api.OK || parallaxCode != api.OK || missCode != api.OK || text(s, u, gap, parallax, miss) != "0 0 4 1 25" {
		t.Errorf("the example has %s", text(s, u, gap, parallax, miss))
	}
	parallel := ray(7, 3, 0, -2, 0, 0)
	gap, gapCode = intersect.Gap(axis, parallel)
	parallax, parallaxCode = intersect.Parallax(axis, parallel)
	if gapCode != api.OK || parallaxCode != api.OK || text(gap, parallax) != "9 0" {
		t.Errorf("parallel lines have %s", text(gap, parallax))
	}
	if s, u, code = intersect.Foot(axis, parallel); code != api.ErrDegenerate || !isZero(s, u) {
		t.Errorf("Foot of parallel lines: %s, %d", text(s, u), code)
	}
	// Directions that are so nearly parallel that only exact numbers tell them apart.
	near := ray(0, 3, 0, 1<<40, 0, 0)
	near.Along[2], _ = fraction.Of(1, 1<<40)
	if s, u, code = intersect.Foot(axis, near); code != api.OK || text(s, u) != "0 0" {
		t.Errorf("Foot = %s, %d", text(s, u), code)
	}
	if parallax, code = intersect.Parallax(axis, near); code != api.OK || fraction.Sign(parallax) <= 0 {
		t.Errorf("Parallax = %s, %d", text(parallax), code)
	}
	if gap, code = intersect.Gap(axis, near); code != api.OK || text(gap) != "9" {
		t.Errorf("Gap = %s, %d", text(gap), code)
	}
}

// P25.7: shifting everything shifts points and changes no distance; scaling directions, also to the opposite ones, changes no distance and no parallax.
func TestShiftedAndScaled(t *testing.T) {
	some(1500, func(r *rand.Rand) {
		l := lines(r, 2)
		a, b, p := l[0], l[1], vectorAt(r)
		shift, k := vectorAt(r), rat(0)
		for k.Sign() == 0 {
			k = number(r)
		}
		none := vector{rat(0), rat(0), rat(0)}
		all := func(a, b line, p vector) string {
			gap, gapCode := intersect.Gap(a.ray(), b.ray())
			miss, missCode := intersect.Miss(a.ray(), p.point())
			parallax, code := intersect.Parallax(a.ray(), b.ray())
			if gapCode != api.OK || missCode != api.OK || code != api.OK {
				t.Fatalf("%s: %d, %d, %d", rayText(a.ray(), b.ray()), gapCode, missCode, code)
			}
			return text(gap, miss, parallax)
		}
		want := all(a, b, p)
		moved := func(a line) line { return line{a.origin.plus(rat(1), shift), a.along} }
		if got := all(moved(a), moved(b), p.plus(rat(1), shift)); got != want {
			t.Fatalf("%s, shifted %s", want, got)
		}
		scaled := line{a.origin, none.plus(k, a.along)}
		if got := all(scaled, b, p); got != want {
			t.Fatalf("%s, with the direction of a times %s %s", want, k, got)
		}
		s, u, code := intersect.Foot(a.ray(), b.ray())
		if v, w, movedCode := intersect.Foot(moved(a).ray(), moved(b).ray()); movedCode != code || text(v, w) != text(s, u) {
			t.Fatalf("Foot = %s, %d, shifted %s, %d", text(s, u), code, text(v, w), movedCode)
		}
		if code != api.OK {
			return
		}
		// The points stay where they are.
		if v, w, code := intersect.Foot(scaled.ray(), b.ray()); code != api.OK || bigText(mul(k, bigOf(v))) != text(s) || text(w) != text(u) {
			t.Fatalf("Foot = %s, with the direction of a times %s %s", text(s, u), k, text(v, w))
		}
	})
}
