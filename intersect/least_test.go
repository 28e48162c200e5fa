package intersect_test

import (
	"math/big"
	"math/rand"
	"slices"
	"testing"

	"fiducial/api"
	"fiducial/fraction"
	"fiducial/intersect"
)

// sumOf is the weighted sum of the squared distances of p.
func sumOf(l []line, weights []int, p vector) *big.Rat {
	sum := rat(0)
	for k, a := range l {
		sum = add(sum, mul(rat(weights[k]), a.miss(p)))
	}
	return sum
}

// wantLeast fails the test if Least does not return the point with the least sum: there the derivatives of the sum are 0, and it is convex.
func wantLeast(t *testing.T, l []line, weights []int) (vector, *big.Rat) {
	t.Helper()
	rays, copied := raysOf(l), slices.Clone(weights)
	point, sum, code := intersect.Least(rays, weights)
	if code != api.OK || !fraction.Valid(sum) || rayText(rays...) != rayText(raysOf(l)...) || !slices.Equal(weights, copied) {
		t.Fatalf("Least(%s, %v) = %s, %s, %d", rayText(rays...), weights, text(point[:]...), text(sum), code)
	}
	p := vectorOf(point)
	slope := vector{rat(0), rat(0), rat(0)}
	for k, a := range l {
		slope = slope.plus(rat(weights[k]), a.missed(p))
	}
	if slope.dot(slope).Sign() != 0 || sumOf(l, weights, p).Cmp(bigOf(sum)) != 0 || text(point[:]...) != bigText(p[:]...) {
		t.Fatalf("Least(%s, %v) = %s, %s", rayText(rays...), weights, text(point[:]...), text(sum))
	}
	return p, bigOf(sum)
}

// areParallel reports whether all lines are parallel.
func areParallel(l []line) bool {
	for _, a := range l {
		if !isParallel(l[0], a) {
			return false
		}
	}
	return true
}

// P25.5: no point has a lesser sum, and no other one an equal sum; parallel rays are refused.
func TestLeast(t *testing.T) {
	lengths, codes := map[int]int{}, map[api.Code]int{}
	some(1500, func(r *rand.Rand) {
		n := pick(r, 1, 2, 2, 3, 3, 4, 5+r.Intn(4))
		l := lines(r, n)
		if r.Intn(6) == 0 {
			l = parallels(r, n)
		}
		weights := weightsOf(r, n)
		if areParallel(l) {
			point, sum, code := intersect.Least(raysOf(l), weights)
			if code != api.ErrDegenerate || !isZero(sum) || !isZero(point[:]...) {
				t.Fatalf("Least(%s, %v) = %s, %s, %d", rayText(raysOf(l)...), weights, text(point[:]...), text(sum), code)
			}
			codes[code]++
			return
		}
		p, sum := wantLeast(t, l, weights)
		for range 4 {
			// Also points that are near to it.
			d := direction(r)
			q := p.plus(big.NewRat(1, int64(pick(r, 1, 1000, 1<<40))), d)
			if sumOf(l, weights, q).Cmp(sum) <= 0 {
				t.Fatalf("Least(%s, %v) = %s, %s, but %s has the sum %s", rayText(raysOf(l)...), weights, p, sum, q, sumOf(l, weights, q))
			}
		}
		codes[api.OK]++
		lengths[min(n, 5)]++
	})
	if codes[api.OK] < 500 || codes[api.ErrDegenerate] < 200 || lengths[2] < 100 || lengths[3] < 100 || lengths[4] < 50 || lengths[5] < 50 {
		t.Errorf("numbers of codes: %v, of rays: %v", codes, lengths)
	}
}

// P25.5: the examples of the chapter; one line that is not parallel to the others is enough.
func TestLeastExamples(t *testing.T) {
	axis, other := ray(0, 0, 0, 1, 0, 0), ray(0, 0, 2, 0, 1, 0)
	for _, c := range []struct {
		l       []api.Ray
		weights []int
		want    string
	}{
		{[]api.Ray{axis, other}, []int{1, 1}, "0 0 1 2"},
		{[]api.Ray{axis, other}, []int{1, 3}, "0 0 3/2 3"},
		{[]api.Ray{axis, other}, []int{maxWeight, maxWeight}, "0 0 1 2097152"},
		{[]api.Ray{axis, axis, axis, ray(5, 0, 0, 1, 1, 0)}, []int{1, 2, 3, 4}, "5 0 0 0"},
		{[]api.Ray{axis, ray(0, 2, 0, 1, 0, 0), ray(3, 0, 0, 0, 1, 0)}, []int{1, 1, 1}, "3 1 0 2"},
	} {
		p, sum, code := intersect.Least(c.l, c.weights)
		if code != api.OK || text(p[0], p[1], p[2], sum) != c.want {
			t.Errorf("Least(%s, %v) = %s, %d, want %s", rayText(c.l...), c.weights, text(p[0], p[1], p[2], sum), code, c.want)
		}
	}
	for _, l := range [][]api.Ray{{axis}, {axis, axis}, {axis, ray(7, 3, 0, -2, 0, 0)}, {axis, ray(7, 3, 0, -2, 0, 0), ray(0, 0, 9, 5, 0, 0)}} {
		p, sum, code := intersect.Least(l, slices.Repeat([]int{2}, len(l)))
		if code != api.ErrDegenerate || !isZero(sum) || !isZero(p[:]...) {
			t.Errorf("Least(%s) = %s, %s, %d", rayText(l...), text(p[:]...), text(sum), code)
		}
	}
}

// P25.6: lines with a common point, which need not be the origin of any.
func TestLeastCommon(t *testing.T) {
	some(500, func(r *rand.Rand) {
		p := vectorAt(r)
		n := 2 + r.Intn(5)
		l := make([]line, n)
		for i := range l {
			along := direction(r)
			l[i] = line{p.plus(number(r), along), along}
		}
		if areParallel(l) {
			return
		}
		got, sum, code := intersect.Least(raysOf(l), weightsOf(r, n))
		if code != api.OK || text(got[:]...) != bigText(p[:]...) || text(sum) != "0" {
			t.Fatalf("Least(%s) = %s, %s, %d, want %s", rayText(raysOf(l)...), text(got[:]...), text(sum), code, p)
		}
	})
}

// P25.7: what is shifted, scaled or weighted otherwise; and the order of the rays does not matter.
func TestLeastChanged(t *testing.T) {
	some(400, func(r *rand.Rand) {
		n := 2 + r.Intn(4)
		l := lines(r, n)
		if areParallel(l) {
			return
		}
		weights := make([]int, n)
		for i := range weights {
			weights[i] = 1 + r.Intn(1000)
		}
		p, sum := wantLeast(t, l, weights)
		expect := func(what string, l []line, weights []int, p vector, sum *big.Rat) {
			got, gotSum, code := intersect.Least(raysOf(l), weights)
			if code != api.OK || text(got[:]...) != bigText(p[:]...) || text(gotSum) != bigText(sum) {
				t.Fatalf("%s: Least(%s, %v) = %s, %s, %d, want %s, %s", what, rayText(raysOf(l)...), weights, text(got[:]...), text(gotSum), code, p, sum)
			}
		}
		shift, shifted := vectorAt(r), slices.Clone(l)
		scaled, turned, exchanged := slices.Clone(l), slices.Clone(weights), slices.Clone(weights)
		factor := 1 + r.Intn(1000)
		for i, a := range l {
			shifted[i].origin = a.origin.plus(rat(1), shift)
			k := rat(0)
			for k.Sign() == 0 {
				k = number(r)
			}
			// An origin may lie anywhere on its line.
			scaled[i] = line{a.at(number(r)), vector{rat(0), rat(0), rat(0)}.plus(k, a.along)}
			turned[i] *= factor
		}
		expect("shifted", shifted, weights, p.plus(rat(1), shift), sum)
		expect("scaled", scaled, weights, p, sum)
		expect("weighted", l, turned, p, mul(rat(factor), sum))
		mixed := slices.Clone(l)
		r.Shuffle(n, func(i, j int) {
			mixed[i], mixed[j] = mixed[j], mixed[i]
			exchanged[i], exchanged[j] = exchanged[j], exchanged[i]
		})
		expect("mixed", mixed, exchanged, p, sum)
	})
}

// P25.5, P25.8: as many rays as there may be, with long numbers.
func TestManyRays(t *testing.T) {
	r := rand.New(rand.NewSource(1))
	l := make([]line, maxImages)
	for i := range l {
		v := func() *big.Rat {
			return new(big.Rat).SetFrac(new(big.Int).Rand(r, new(big.Int).Lsh(big.NewInt(1), 60)), big.NewInt(int64(1+r.Intn(1<<20))))
		}
		l[i] = line{vector{v(), v(), v()}, vector{v(), v(), v()}}
	}
	wantLeast(t, l, weightsOf(r, maxImages))
	wantBest(t, l)
}

// wantBest fails the test if Best does not return the first pair with the greatest parallax; it returns how many pairs have it.
func wantBest(t *testing.T, l []line) int {
	t.Helper()
	var greatest *big.Rat
	var first [2]int
	count := 0
	for i := range l {
		for j := range l[i+1:] {
			p := parallaxOf(l[i], l[i+1+j])
			switch {
			case greatest == nil || p.Cmp(greatest) > 0:
				greatest, first, count = p, [2]int{i, i + 1 + j}, 1
			case p.Cmp(greatest) == 0:
				count++
			}
		}
	}
	rays := raysOf(l)
	before := rayText(rays...)
	i, j, parallax, code := intersect.Best(rays)
	if code != api.OK || [2]int{i, j} != first || text(parallax) != bigText(greatest) || rayText(rays...) != before {
		t.Fatalf("Best(%s) = %d, %d, %s, %d, want %v, %s", before, i, j, text(parallax), code, first, greatest)
	}
	return count
}

// P25.8: the pair with the greatest parallax, of several the first one; parallel rays have one, too.
func TestBest(t *testing.T) {
	counts := map[int]int{}
	some(2000, func(r *rand.Rand) {
		n := pick(r, 2, 2, 3, 4, 5+r.Intn(6))
		l := lines(r, n)
		switch r.Intn(6) {
		case 0:
			l = parallels(r, n)
		case 1, 2:
			// Many directions have equal angles.
			for i := range l {
				l[i].along = vector{rat(0), rat(0), rat(0)}
				for range 1 + r.Intn(2) {
					l[i].along[r.Intn(3)] = rat(pick(r, -1, 1, 2))
				}
			}
		}
		counts[min(wantBest(t, l), 4)]++
	})
	if counts[1] < 300 || counts[2] < 50 || counts[3] < 50 || counts[4] < 100 {
		t.Errorf("numbers of pairs with the greatest parallax: %v", counts)
	}
	x, y, z := ray(0, 0, 0, 1, 0, 0), ray(1, 0, 0, 0, 1, 0), ray(0, 1, 0, 0, 0, 1)
	for _, c := range []struct {
		l    []api.Ray
		i, j int
		want string
	}{
		{[]api.Ray{x, y, z}, 0, 1, "1"},
		{[]api.Ray{x, x, y, z}, 0, 2, "1"},
		{[]api.Ray{x, x, x, y}, 0, 3, "1"},
		{[]api.Ray{x, ray(0, 0, 0, 1, 1, 0), z}, 0, 2, "1"},
		{[]api.Ray{x, x, ray(0, 0, 0, 1, 1, 0)}, 0, 2, "1/2"},
		{[]api.Ray{x, ray(0, 0, 0, 1, 1, 0), y}, 0, 2, "1"},
		{[]api.Ray{ray(0, 0, 0, 1, 1, 0), x, y}, 1, 2, "1"},
		{[]api.Ray{x, x, x}, 0, 1, "0"},
	} {
		i, j, parallax, code := intersect.Best(c.l)
		if code != api.OK || i != c.i || j != c.j || text(parallax) != c.want {
			t.Errorf("Best(%s) = %d, %d, %s, %d", rayText(c.l...), i, j, text(parallax), code)
		}
	}
}
