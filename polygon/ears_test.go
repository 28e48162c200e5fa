package polygon_test

import (
	"math"
	"math/rand"
	"slices"
	"testing"

	"fiducial/api"
	"fiducial/polygon"
)

// closed reports whether q lies in the closed triangle of a, b and c.
func closed(a, b, c, q api.Pix) bool {
	signs := []int{sign(cross(a, b, q)), sign(cross(b, c, q)), sign(cross(c, a, q))}
	return !slices.Contains(signs, -1) || !slices.Contains(signs, 1)
}

// cutEars is the definition of Ears.
func cutEars(p []api.Pix) [][3]int {
	var rest []int
	for i := range p {
		rest = append(rest, i)
	}
	var ears [][3]int
	isEar := func(k int) bool {
		n := len(rest)
		before, behind := (k+n-1)%n, (k+1)%n
		a, b, c := p[rest[before]], p[rest[k]], p[rest[behind]]
		if sign(cross(a, b, c)) != sign(doubled(p)) {
			return false
		}
		for m, i := range rest {
			if m != before && m != k && m != behind && closed(a, b, c, p[i]) {
				return false
			}
		}
		return true
	}
	for len(rest) > 3 {
		k, n := 0, len(rest)
		for !isEar(k) {
			k++
		}
		ears = append(ears, [3]int{rest[(k+n-1)%n], rest[k], rest[(k+1)%n]})
		rest = slices.Delete(rest, k, k+1)
	}
	return append(ears, [3]int(rest))
}

// spiral returns a polygon with 64 vertices that winds around itself.
func spiral() []api.Pix {
	var out, in []api.Pix
	for i := range 32 {
		d := 100 + 20*i
		corner := []api.Pix{pt(d, d), pt(-d, d), pt(-d, -d), pt(d+20, -d)}[i%4]
		out = append(out, corner)
		in = append(in, pt(corner.X-5*sign(corner.X), corner.Y-5*sign(corner.Y)))
	}
	slices.Reverse(in)
	return slices.Concat(out, in)
}

// P10.3: the ears in their order, and CheckEars accepts them.
func TestEars(t *testing.T) {
	check := func(p []api.Pix) {
		before := slices.Clone(p)
		got, code := polygon.Ears(p)
		if code != api.OK || !slices.Equal(got, cutEars(p)) || !slices.Equal(p, before) {
			t.Fatalf("Ears(%v) = %v, %d", p, got, code)
		}
		if code := polygon.CheckEars(p, got); code != api.OK {
			t.Fatalf("CheckEars(%v, %v): %d", p, got, code)
		}
	}
	for n := 3; n <= 5; n++ {
		lists(n, func(p []api.Pix) {
			if isSimple(p) {
				check(p)
			}
		})
	}
	some(2000, func(r *rand.Rand) {
		check(simple(r))
		check(star(r, 3+r.Intn(20), most))
	})
	some(10, func(r *rand.Rand) {
		check(star(r, 64, most))
		check(turned(r, triangleWith(64)))
		check(turned(r, spiral()))
	})
}

// P10.3: the example, in both directions, and straight angles.
func TestEarsExamples(t *testing.T) {
	backwards := example()
	slices.Reverse(backwards)
	for _, c := range []struct {
		p    []api.Pix
		want [][3]int
	}{
		{example(), [][3]int{{1, 2, 3}, {0, 1, 3}, {0, 3, 4}}},
		// (0, 4) (2, 1) (4, 4) (4, 0) (0, 0)
		{backwards, [][3]int{{4, 0, 1}, {1, 2, 3}, {1, 3, 4}}},
		{[]api.Pix{pt(0, 0), pt(4, 0), pt(0, 4)}, [][3]int{{0, 1, 2}}},
		{[]api.Pix{pt(0, 4), pt(4, 0), pt(0, 0)}, [][3]int{{0, 1, 2}}},
		{[]api.Pix{pt(0, 0), pt(4, 0), pt(4, 4), pt(0, 4)}, [][3]int{{3, 0, 1}, {1, 2, 3}}},
		// The vertex 0 is straight, and lies on no border of the triangle at 1.
		{[]api.Pix{pt(2, 0), pt(4, 0), pt(0, 4), pt(0, 0)}, [][3]int{{0, 1, 2}, {0, 2, 3}}},
		{[]api.Pix{pt(2, 2), pt(0, 4), pt(0, 0), pt(4, 0)}, [][3]int{{0, 1, 2}, {0, 2, 3}}},
		// (2, 2) lies on the border of the triangle at (4, 0).
		{[]api.Pix{pt(4, 0), pt(4, 4), pt(2, 2), pt(0, 0)}, [][3]int{{0, 1, 2}, {0, 2, 3}}},
	} {
		if got, code := polygon.Ears(c.p); code != api.OK || !slices.Equal(got, c.want) {
			t.Errorf("Ears(%v) = %v, %d, want %v", c.p, got, code, c.want)
		}
	}
}

// accepted is the definition of what CheckEars accepts.
func accepted(p []api.Pix, t [][3]int) bool {
	n := len(p)
	if len(t) != n-2 {
		return false
	}
	count := map[[2]int]int{}
	for _, l := range t {
		if min(l[0], l[1], l[2]) < 0 || max(l[0], l[1], l[2]) >= n || sign(cross(p[l[0]], p[l[1]], p[l[2]])) != sign(doubled(p)) {
			return false
		}
		count[[2]int{l[0], l[1]}]++
		count[[2]int{l[1], l[2]}]++
		count[[2]int{l[2], l[0]}]++
	}
	for i := range n {
		if count[[2]int{i, (i + 1) % n}] != 1 {
			return false
		}
	}
	for edge, times := range count {
		if times != 1 || edge[1] != (edge[0]+1)%n && count[[2]int{edge[1], edge[0]}] == 0 {
			return false
		}
	}
	return true
}

// covers fails the test if some points inside a polygon lie in no triangle or in several ones, or points outside in one. All is six times as large as p, so that many points lie on no edge.
func covers(t *testing.T, r *rand.Rand, p []api.Pix, triangles [][3]int) {
	t.Helper()
	large := make([]api.Pix, len(p))
	for i, v := range p {
		large[i] = pt(6*v.X, 6*v.Y)
	}
	for range 60 {
		q := pt(r.Intn(70)-6, r.Intn(70)-6)
		within, onEdge := 0, false
		for _, l := range triangles {
			switch position([]api.Pix{large[l[0]], large[l[1]], large[l[2]]}, q) {
			case 0:
				onEdge = true
			case 1:
				within++
			}
		}
		where := position(large, q)
		if where < 0 && (within > 0 || onEdge) || where > 0 && !onEdge && within != 1 || where > 0 && onEdge && within > 0 {
			t.Fatalf("%v of %v: the position of %v is %d, and %d triangles contain it", triangles, p, q, where, within)
		}
	}
}

// P10.4: all lists of two triangles with four vertices.
func TestCheckEarsOfFour(t *testing.T) {
	count := 0
	check := func(r *rand.Rand, p []api.Pix, l [][3]int) {
		want := api.ErrProof
		if accepted(p, l) {
			want = api.OK
			covers(t, r, p, l)
			count++
		}
		if code := polygon.CheckEars(p, l); code != want {
			t.Fatalf("CheckEars(%v, %v): %d, want %d", p, l, code, want)
		}
	}
	some(8, func(r *rand.Rand) {
		p := simple(r)
		for len(p) != 4 {
			p = simple(r)
		}
		for k := range 64 * 64 {
			check(r, p, [][3]int{{k % 4, k / 4 % 4, k / 16 % 4}, {k / 64 % 4, k / 256 % 4, k / 1024}})
		}
	})
	if count < 8*18 {
		t.Errorf("only %d are accepted", count)
	}
}

// P10.4: triangulations with other ears, and what is almost one.
func TestCheckEars(t *testing.T) {
	var count [2]int
	some(20000, func(r *rand.Rand) {
		p := simple(r)
		// Ears of the polygon that begins elsewhere.
		k, n := r.Intn(len(p)), len(p)
		var l [][3]int
		for _, ear := range mustEars(t, slices.Concat(p[k:], p[:k])) {
			m := r.Intn(3)
			l = append(l, [3]int{(ear[m] + k) % n, (ear[(m+1)%3] + k) % n, (ear[(m+2)%3] + k) % n})
		}
		r.Shuffle(len(l), func(i, j int) { l[i], l[j] = l[j], l[i] })
		if code := polygon.CheckEars(p, l); code != api.OK {
			t.Fatalf("CheckEars(%v, %v): %d", p, l, code)
		}
		if r.Intn(20) == 0 {
			covers(t, r, p, l)
		}
		for range 1 + r.Intn(2) {
			change(r, l, n)
		}
		want := api.ErrProof
		if accepted(p, l) {
			want = api.OK
			covers(t, r, p, l)
			count[1]++
		} else {
			count[0]++
		}
		if code := polygon.CheckEars(p, l); code != want {
			t.Fatalf("CheckEars(%v, %v): %d, want %d", p, l, code, want)
		}
	})
	if min(count[0], count[1]) < 1000 {
		t.Errorf("%d changed lists are refused and accepted", count)
	}
}

// change changes a list of triangles of n vertices.
func change(r *rand.Rand, l [][3]int, n int) {
	i := r.Intn(len(l))
	switch r.Intn(4) {
	case 0:
		l[i][r.Intn(3)] = r.Intn(n)
	case 1:
		l[i] = l[r.Intn(len(l))]
	case 2:
		slices.Reverse(l[i][:2])
	default:
		// Two triangles with a common edge get the other diagonal.
		flip(r, l, i)
	}
}

// flip replaces the triangle i and one that has an edge in common with it by the two others with the same corners.
func flip(r *rand.Rand, l [][3]int, i int) {
	m := r.Intn(3)
	a, b, c := l[i][m], l[i][(m+1)%3], l[i][(m+2)%3]
	for k, other := range l {
		for m := range 3 {
			if other[m] == b && other[(m+1)%3] == a {
				d := other[(m+2)%3]
				l[i], l[k] = [3]int{c, a, d}, [3]int{d, b, c}
				return
			}
		}
	}
}

// P10.4: what is no triangulation for one reason each.
func TestCheckEarsInvalid(t *testing.T) {
	square := []api.Pix{pt(0, 0), pt(4, 0), pt(4, 4), pt(0, 4)}
	clockwise := []api.Pix{pt(0, 0), pt(0, 4), pt(4, 4), pt(4, 0)}
	straight := []api.Pix{pt(0, 0), pt(2, 0), pt(4, 0), pt(4, 4), pt(0, 4)}
	good := [][3]int{{0, 1, 2}, {0, 2, 3}}
	for _, p := range [][]api.Pix{square, clockwise} {
		for _, l := range [][][3]int{good, {{2, 0, 1}, {3, 0, 2}}, {{1, 3, 0}, {3, 1, 2}}} {
			if code := polygon.CheckEars(p, l); code != api.OK {
				t.Errorf("CheckEars(%v, %v): %d", p, l, code)
			}
		}
		for _, l := range [][][3]int{
			nil, {}, good[:1], slices.Concat(good, good[:1]), slices.Concat(good, [][3]int{{0, 0, 0}}),
			{{0, 2, 1}, {0, 3, 2}}, {{0, 2, 1}, {0, 2, 3}}, {{0, 1, 2}, {0, 1, 2}}, {{0, 1, 2}, {1, 2, 3}}, {{0, 1, 2}, {3, 0, 1}},
			{{0, 1, 2}, {0, 0, 3}}, {{0, 1, 2}, {0, 2, 4}}, {{0, 1, 2}, {0, 2, -1}}, {{-1, 1, 2}, {0, 2, 3}}, {{0, 1, math.MaxInt}, {0, 2, 3}}, {{math.MinInt, 1, 2}, {0, 2, 3}},
			{{0, 1, 1}, {0, 2, 3}}, slices.Repeat(good, 1000),
		} {
			if code := polygon.CheckEars(p, l); code != api.ErrProof {
				t.Errorf("CheckEars(%v, %v): %d", p, l, code)
			}
		}
	}
	if code := polygon.CheckEars(straight, [][3]int{{1, 2, 3}, {1, 3, 4}, {1, 4, 0}}); code != api.OK {
		t.Errorf("CheckEars(%v): %d", straight, code)
	}
	// A triangle with three vertices on a line, one that leaves a vertex out, and one that covers two others.
	for _, l := range [][][3]int{{{0, 1, 2}, {0, 2, 3}, {0, 3, 4}}, {{0, 2, 3}, {0, 3, 4}, {0, 3, 4}}, {{0, 2, 3}, {0, 3, 4}, {1, 2, 3}}} {
		if code := polygon.CheckEars(straight, l); code != api.ErrProof {
			t.Errorf("CheckEars(%v, %v): %d", straight, l, code)
		}
	}
	for want, lists := range invalid() {
		for _, p := range lists {
			for _, l := range [][][3]int{nil, good, {{0, 1, 2}}, {{-1, 99, 0}}} {
				if code := polygon.CheckEars(p, l); code != want {
					t.Errorf("CheckEars(%v, %v): %d, want %d", p, l, code, want)
				}
			}
		}
	}
}
