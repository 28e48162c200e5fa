package intersect_test

import (
	"math"
	"math/rand"
	"slices"
	"testing"

	"fiducial/api"
	"fiducial/fraction"
	"fiducial/intersect"
)

// P25.1 to P25.4: a ray that is none, and a number that is not canonical, in each place of each function; also of parallel rays.
func TestInvalid(t *testing.T) {
	a, one, p := ray(1, 2, 3, 4, 5, 6), fraction.Whole(1), whole(7, 8, 10)
	expect := func(name string, code api.Code, results ...api.Rat) {
		t.Helper()
		if code != api.ErrArgument || !isZero(results...) {
			t.Errorf("%s = %s, %d", name, text(results...), code)
		}
	}
	ofRay := func(bad api.Ray, s api.Rat, p [3]api.Rat) {
		t.Helper()
		at, code := intersect.At(bad, s)
		expect("At", code, at[:]...)
		miss, code := intersect.Miss(bad, p)
		expect("Miss", code, miss)
		isFront, code := intersect.Front(bad, p)
		if expect("Front", code); isFront {
			t.Errorf("Front(%s) is true", rayText(bad))
		}
	}
	ofRays := func(a, b api.Ray) {
		t.Helper()
		s, u, code := intersect.Foot(a, b)
		expect("Foot", code, s, u)
		gap, code := intersect.Gap(a, b)
		expect("Gap", code, gap)
		parallax, code := intersect.Parallax(a, b)
		expect("Parallax", code, parallax)
	}
	for _, bad := range invalidRays() {
		ofRay(bad, one, p)
		ofRays(bad, a)
		ofRays(a, bad)
		ofRays(bad, bad)
		for _, x := range notCanonical() {
			ofRay(bad, x, [3]api.Rat{x, x, x})
		}
	}
	for _, x := range notCanonical() {
		at, code := intersect.At(a, x)
		expect("At", code, at[:]...)
	}
	for _, q := range invalidPoints() {
		ofRay(a, notCanonical()[0], q)
		miss, code := intersect.Miss(a, q)
		expect("Miss", code, miss)
	}
}

// change makes a list of rays with weights wrong.
type change struct {
	code api.Code
	make func(l *[]api.Ray, weights *[]int)
}

// changes are all that may be wrong in a call of Least, in the order in which it is asked for.
func changes() []change {
	var l []change
	for _, bad := range invalidRays() {
		for _, place := range []int{0, 1, 2} {
			l = append(l, change{api.ErrArgument, func(l *[]api.Ray, weights *[]int) {
				*l = slices.Insert(slices.Clone(*l), min(place, len(*l)), bad)
			}})
		}
	}
	l = append(l, change{api.ErrLimit, func(l *[]api.Ray, weights *[]int) { *l = nil }})
	for _, n := range []int{65, 66, 100} {
		many := make([]api.Ray, n)
		for i := range many {
			many[i] = ray(i, 0, 0, 0, 1, i)
		}
		l = append(l, change{api.ErrLimit, func(l *[]api.Ray, weights *[]int) { *l = append(slices.Clone(many), *l...)[:n] }})
	}
	for _, n := range []int{0, 1, 2, 4, 5, 64, 65} {
		l = append(l, change{api.ErrMismatch, func(l *[]api.Ray, weights *[]int) {
			*weights = append(slices.Repeat([]int{1}, n), *weights...)[:n]
		}})
	}
	for _, n := range []int{0, -1, maxWeight + 1, math.MinInt, math.MaxInt, 1 << 32, -1 << 32} {
		for _, place := range []int{0, 1, 2} {
			l = append(l, change{api.ErrRange, func(l *[]api.Ray, weights *[]int) {
				*weights = slices.Clone(*weights)
				(*weights)[min(place, len(*weights)-1)] = n
			}})
		}
	}
	return append(l, change{api.ErrDegenerate, func(l *[]api.Ray, weights *[]int) {
		*l = []api.Ray{ray(0, 0, 0, 1, 2, 3), ray(0, 0, 1, -1, -2, -3), ray(9, 9, 9, 2, 4, 6)}
	}})
}

// P25.5: each fault alone, and each pair of faults: the code is that of the fault that comes first.
func TestLeastInvalid(t *testing.T) {
	list := changes()
	for i, first := range list {
		for _, second := range list[i:] {
			l, weights := []api.Ray{ray(0, 0, 0, 1, 0, 0), ray(0, 0, 2, 0, 1, 0), ray(5, 5, 5, 1, 1, 1)}, []int{1, 2, 3}
			if second.code == api.ErrRange && first.code == api.ErrRange {
				continue
			}
			second.make(&l, &weights)
			first.make(&l, &weights)
			p, sum, code := intersect.Least(l, weights)
			if code != first.code || !isZero(sum) || !isZero(p[:]...) {
				t.Fatalf("Least(%s, %v) = %s, %s, %d, want %d; then %d", rayText(l...), weights, text(p[:]...), text(sum), code, first.code, second.code)
			}
		}
	}
	for _, w := range []int{1, maxWeight} {
		if _, _, code := intersect.Least([]api.Ray{ray(0, 0, 0, 1, 0, 0), ray(0, 0, 2, 0, 1, 0)}, []int{w, w}); code != api.OK {
			t.Errorf("Least with the weight %d: %d", w, code)
		}
	}
}

// P25.8: a ray that is none comes before too few or too many of them.
func TestBestInvalid(t *testing.T) {
	expect := func(l []api.Ray, want api.Code) {
		t.Helper()
		if i, j, parallax, code := intersect.Best(l); code != want || i != 0 || j != 0 || !isZero(parallax) {
			t.Errorf("Best of %d rays = %d, %d, %s, %d, want %d", len(l), i, j, text(parallax), code, want)
		}
	}
	good := make([]api.Ray, 1000)
	for i := range good {
		good[i] = ray(0, i, 0, 1, 2, i)
	}
	for _, n := range []int{0, 1, 65, 66, 1000} {
		expect(good[:n], api.ErrLimit)
	}
	if i, j, _, code := intersect.Best(good[:maxImages]); code != api.OK || i != 0 || j != 63 {
		t.Errorf("Best of 64 rays = %d, %d, %d", i, j, code)
	}
	for _, bad := range invalidRays() {
		expect([]api.Ray{bad}, api.ErrArgument)
		for _, n := range []int{1, 2, 3, 64, 65} {
			for _, place := range []int{0, n / 2, n} {
				expect(slices.Insert(slices.Clone(good[:n]), place, bad), api.ErrArgument)
			}
		}
	}
}

// overwrite changes all that a fraction shows of its memory, and what an append would write behind it.
func overwrite(x api.Rat) {
	for _, groups := range [][]uint32{x.Num.Groups, x.Den.Groups} {
		for i := range groups {
			groups[i] = 123
		}
		_ = append(groups, 123)
	}
}

// Results share no memory with arguments or with one another, also where they are equal to an argument.
func TestShared(t *testing.T) {
	some(300, func(r *rand.Rand) {
		l := lines(r, 2)
		if r.Intn(2) == 0 {
			l[1] = line{l[0].origin, direction(r)}
		}
		a, b := l[0].ray(), l[1].ray()
		s, u, _ := intersect.Foot(a, b)
		gap, _ := intersect.Gap(a, b)
		miss, _ := intersect.Miss(a, b.Origin)
		parallax, _ := intersect.Parallax(a, b)
		zero, _ := intersect.At(a, fraction.Whole(0))
		one, _ := intersect.At(a, fraction.Whole(1))
		point, sum, _ := intersect.Least([]api.Ray{a, b}, []int{1, 1})
		_, _, best, _ := intersect.Best([]api.Ray{a, b})
		all := slices.Concat([]api.Rat{s, u, gap, miss, parallax, sum, best}, zero[:], one[:], point[:], a.Origin[:], a.Along[:], b.Origin[:], b.Along[:])
		for i, x := range all {
			before := text(all[i+1:]...)
			overwrite(x)
			if text(all[i+1:]...) != before {
				t.Fatalf("result %d shares memory", i)
			}
		}
	})
}
