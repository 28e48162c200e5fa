package homography_test

import (
	"math/big"
	"math/rand"
	"slices"
	"testing"

	"fiducial/api"
	"fiducial/fraction"
	"fiducial/homography"
)

// P27.1: all small integers: which of them are homographies, points and lines.
func TestValid(t *testing.T) {
	isReduced := func(l []int) bool {
		first := slices.IndexFunc(l, func(n int) bool { return n != 0 })
		divisor := new(big.Int)
		for _, n := range l {
			divisor.GCD(nil, nil, divisor, big.NewInt(int64(max(n, -n))))
		}
		return first >= 0 && l[first] > 0 && divisor.Int64() == 1
	}
	small := func(n, digits, base, least int) []int {
		l := make([]int, digits)
		for i := range l {
			l[i] = n%base + least
			n /= base
		}
		return l
	}
	count := 0
	for n := range 19683 {
		l := small(n, 9, 3, -1)
		want := isReduced(l) && determinant(bigs(ints(l)...)).Sign() != 0
		if got := homography.Valid(nine(l...)); got != want {
			t.Fatalf("Valid(%v) = %t", l, got)
		}
		if want {
			count++
		}
	}
	if count < 4000 {
		t.Errorf("%d homographies", count)
	}
	for n := range 729 {
		l := small(n, 3, 9, -4)
		if got := homography.Proper(triple(l...)); got != isReduced(l) {
			t.Fatalf("Proper(%v) = %t", l, got)
		}
	}
}

// P27.1: homographies of all sizes, multiples of them and singular matrices, and what is not canonical.
func TestValidLong(t *testing.T) {
	some(500, func(r *rand.Rand) {
		h, p := randomMap(r), random(r)
		if !homography.Valid(h) || !homography.Proper(p) {
			t.Fatalf("Valid(%s), Proper(%s)", text(h[:]...), text(p[:]...))
		}
		factor := big.NewInt(int64(pick(r, -1, 2, -5, 1<<40)))
		for i := range h {
			h[i] = ofBig(new(big.Int).Mul(bigOf(h[i]), factor))
		}
		for i := range p {
			p[i] = ofBig(new(big.Int).Mul(bigOf(p[i]), factor))
		}
		if homography.Valid(h) || homography.Proper(p) {
			t.Fatalf("Valid(%s), Proper(%s)", text(h[:]...), text(p[:]...))
		}
		// The third row, or column, becomes a sum of the others.
		l, u, v := matrix(r), number(r), number(r)
		for k := range 3 {
			if r.Intn(2) == 0 {
				l[6+k] = add(mul(u, l[k]), mul(v, l[3+k]))
			} else {
				l[3*k+2] = add(mul(u, l[3*k]), mul(v, l[3*k+1]))
			}
		}
		if h := homographyOf(l); determinant(l).Sign() == 0 && homography.Valid(h) {
			t.Fatalf("Valid(%s)", text(h[:]...))
		}
	})
	for _, h := range invalidMaps() {
		if homography.Valid(h) || homography.Affine(h) {
			t.Errorf("Valid(%s)", text(h[:]...))
		}
	}
	for _, p := range invalidTriples() {
		if homography.Proper(p) {
			t.Errorf("Proper(%s)", text(p[:]...))
		}
	}
}

// rows are three rows of fractions.
func rows(l []*big.Rat) api.Matrix {
	m := make(api.Matrix, 3)
	for i, x := range l {
		m[i/3] = append(m[i/3], ofRat(x))
	}
	return m
}

// P27.1: the homography of a matrix is that of all its multiples; there are no two.
func TestOf(t *testing.T) {
	long := 0
	some(1500, func(r *rand.Rand) {
		l := matrix(r)
		h, code := homography.Of(rows(l))
		equal(t, "Of", h[:], code, canonical(l))
		if len(h[0].Groups) > 5 {
			long++
		}
		k := number(r)
		if k.Sign() == 0 {
			return
		}
		var multiple []*big.Rat
		for _, x := range l {
			multiple = append(multiple, mul(k, x))
		}
		again, code := homography.Of(rows(multiple))
		equal(t, "Of a multiple", again[:], code, h[:])
		// Equal values have no other map.
		p := random(r)
		want := tripleOf(times(l, bigs(p[:]...)))
		if q := apply(t, again, p); text(q[:]...) != text(want[:]...) {
			t.Fatalf("Apply(%s, %s) = %s", text(again[:]...), text(p[:]...), text(q[:]...))
		}
	})
	if long < 100 {
		t.Errorf("%d long ones", long)
	}
	h, code := homography.Of(rows(bigs(ints([]int{2, 0, 64, 0, 2, 0, 0, 0, 2})...)))
	equal(t, "Of", h[:], code, ints([]int{1, 0, 32, 0, 1, 0, 0, 0, 1}))
}

// P27.1: the errors of Of in their order.
func TestOfErrors(t *testing.T) {
	one := fraction.Whole(1)
	of := func(m api.Matrix, want api.Code) {
		t.Helper()
		h, code := homography.Of(m)
		refused(t, "Of", h[:], code, want)
	}
	for _, lengths := range [][]int{{}, {3}, {3, 3}, {3, 3, 3, 3}, {2, 2, 2}, {4, 4, 4}, {3, 3, 2}, {2, 3, 4}, {0, 0, 0}, {0, 3, 3}, {3, 4, 2}, {9}, {3, 3, 3, 0}} {
		m := make(api.Matrix, len(lengths))
		for i, n := range lengths {
			m[i] = slices.Repeat([]api.Rat{one}, n)
		}
		of(m, api.ErrMismatch)
		for i, row := range m {
			for j := range row {
				for _, x := range notRats() {
					row[j] = x
					of(m, api.ErrArgument)
				}
				row[j] = one
			}
			m[i] = row
		}
	}
	of(nil, api.ErrMismatch)
	for _, l := range [][]int{{0, 0, 0, 0, 0, 0, 0, 0, 0}, {1, 2, 3, 4, 5, 6, 7, 8, 9}, {1, 0, 0, 0, 1, 0, 1, 1, 0}} {
		m := rows(bigs(ints(l)...))
		of(m, api.ErrSingular)
		for _, x := range notRats() {
			m[1][2] = x
			of(m, api.ErrArgument)
		}
	}
}

// P27.1: the map that changes nothing, and maps that keep the line at infinity.
func TestIdentityAffine(t *testing.T) {
	h := homography.Identity()
	equal(t, "Identity", h[:], api.OK, ints([]int{1, 0, 0, 0, 1, 0, 0, 0, 1}))
	affine := 0
	some(1000, func(r *rand.Rand) {
		h, p := randomMap(r), random(r)
		if q := apply(t, homography.Identity(), p); text(q[:]...) != text(p[:]...) {
			t.Fatalf("%s becomes %s", text(p[:]...), text(q[:]...))
		}
		// The line at infinity has two points on the axes.
		x, y := apply(t, h, triple(1, 0, 0)), apply(t, h, triple(0, 1, 0))
		want := isBlank(x[2], y[2])
		if got := homography.Affine(h); got != want {
			t.Fatalf("Affine(%s) = %t", text(h[:]...), got)
		}
		if want {
			affine++
		}
	})
	if affine < 100 {
		t.Errorf("%d affine maps", affine)
	}
	for _, c := range []struct {
		h    api.Homography
		want bool
	}{{homography.Identity(), true}, {nine(1, 2, 3, 4, 5, 6, 0, 0, 7), true}, {nine(1, 0, 0, 0, 1, 0, 1, 0, 1), false}, {nine(1, 0, 0, 0, 1, 0, 0, 1, 1), false}, {nine(0, 0, 1, 0, 1, 0, 1, 0, 0), false}, {nine(-1, 0, 0, 0, 1, 0, 0, 0, 1), false}, {nine(1, 0, 0, 0, 0, 0, 0, 0, 1), false}} {
		if got := homography.Affine(c.h); got != c.want {
			t.Errorf("Affine(%s) = %t", text(c.h[:]...), got)
		}
	}
}

// P27.2: points of the plane become homogeneous ones, and come back.
func TestPointPlace(t *testing.T) {
	infinite := 0
	some(2000, func(r *rand.Rand) {
		x, y := number(r), number(r)
		p, code := homography.Point(api.Place{X: ofRat(x), Y: ofRat(y)})
		equal(t, "Point", p[:], code, canonical([]*big.Rat{x, y, rat(1)}))
		place, code := homography.Place(p)
		if code != api.OK || ratText(place.X, place.Y) != ratText(ofRat(x), ofRat(y)) {
			t.Fatalf("Place(%s) = %s, %d", text(p[:]...), ratText(place.X, place.Y), code)
		}
		p = random(r)
		place, code = homography.Place(p)
		if isBlank(p[2]) {
			infinite++
			refused(t, "Place", flat(place.X, place.Y), code, api.ErrOutside)
			return
		}
		l := bigs(p[:]...)
		if code != api.OK || ratText(place.X, place.Y) != ratText(ofRat(quo(l[0], l[2])), ofRat(quo(l[1], l[2]))) {
			t.Fatalf("Place(%s) = %s, %d", text(p[:]...), ratText(place.X, place.Y), code)
		}
		again, code := homography.Point(place)
		equal(t, "Point", again[:], code, p[:])
	})
	if infinite < 100 {
		t.Errorf("%d points at infinity", infinite)
	}
	for _, x := range notRats() {
		for _, p := range []api.Place{{X: x, Y: fraction.Whole(1)}, {X: fraction.Whole(1), Y: x}, {X: x, Y: x}} {
			got, code := homography.Point(p)
			refused(t, "Point", got[:], code, api.ErrArgument)
		}
	}
	for _, p := range invalidTriples() {
		place, code := homography.Place(p)
		refused(t, "Place", flat(place.X, place.Y), code, api.ErrArgument)
	}
}

// P27.2: the line through two points contains both, and no other line does; of points that are equal there is none.
func TestJoin(t *testing.T) {
	equals := 0
	some(2000, func(r *rand.Rand) {
		p, q := random(r), random(r)
		if r.Intn(4) == 0 {
			q = p
		}
		line, code := homography.Join(p, q)
		if text(p[:]...) == text(q[:]...) {
			equals++
			refused(t, "Join", line[:], code, api.ErrDegenerate)
			return
		}
		turned, _ := homography.Join(q, p)
		l, a, b := bigs(line[:]...), bigs(p[:]...), bigs(q[:]...)
		// Different points are independent, so that two equations leave one line.
		if code != api.OK || !homography.Proper(line) || dot(l, a).Sign() != 0 || dot(l, b).Sign() != 0 || text(turned[:]...) != text(line[:]...) {
			t.Fatalf("Join(%s, %s) = %s, %d", text(p[:]...), text(q[:]...), text(line[:]...), code)
		}
	})
	if equals < 300 {
		t.Errorf("%d equal points", equals)
	}
	line, code := homography.Join(triple(0, 0, 1), triple(3, 2, 1))
	equal(t, "Join", line[:], code, ints([]int{2, -3, 0}))
	line, code = homography.Join(triple(1, 0, 0), triple(0, 1, 0))
	equal(t, "Join of points at infinity", line[:], code, ints([]int{0, 0, 1}))
	for _, bad := range invalidTriples() {
		for _, l := range [][2]api.Triple{{bad, bad}, {bad, triple(1, 2, 3)}, {triple(1, 2, 3), bad}} {
			line, code := homography.Join(l[0], l[1])
			refused(t, "Join", line[:], code, api.ErrArgument)
		}
	}
}

// P27.3: images of points and lines.
func TestApplyLine(t *testing.T) {
	some(2000, func(r *rand.Rand) {
		h, p, l := randomMap(r), random(r), random(r)
		m := bigs(h[:]...)
		q, code := homography.Apply(h, p)
		equal(t, "Apply", q[:], code, canonical(times(m, bigs(p[:]...))))
		image, code := homography.Line(h, l)
		if code != api.OK || !homography.Proper(image) {
			t.Fatalf("Line(%s, %s) = %s, %d", text(h[:]...), text(l[:]...), text(image[:]...), code)
		}
		// Two points of the line, and the only line through their images.
		var on []api.Triple
		for _, other := range []api.Triple{triple(1, 0, 0), triple(0, 1, 0), triple(0, 0, 1)} {
			if point, code := homography.Join(l, other); code == api.OK {
				on = append(on, apply(t, h, point))
			}
		}
		for _, point := range on {
			if dot(bigs(point[:]...), bigs(image[:]...)).Sign() != 0 {
				t.Fatalf("%s is not on %s", text(point[:]...), text(image[:]...))
			}
		}
		if !slices.ContainsFunc(on, func(p api.Triple) bool { return text(p[:]...) != text(on[0][:]...) }) {
			t.Fatalf("one point alone on %s", text(l[:]...))
		}
	})
	shift := nine(1, 0, 32, 0, 1, 0, 0, 0, 1)
	p, code := homography.Apply(shift, triple(1, 2, 1))
	equal(t, "Apply", p[:], code, ints([]int{33, 2, 1}))
	l, code := homography.Line(shift, triple(1, 0, 0))
	equal(t, "Line", l[:], code, ints([]int{1, 0, -32}))
}

// P27.3 and P27.4: what is no homography, point or line.
func TestInvalid(t *testing.T) {
	good, point := nine(1, 0, 32, 0, 1, 0, 0, 0, 1), triple(1, 2, 1)
	two := func(h api.Homography, p api.Triple) {
		t.Helper()
		q, code := homography.Apply(h, p)
		refused(t, "Apply", q[:], code, api.ErrArgument)
		q, code = homography.Line(h, p)
		refused(t, "Line", q[:], code, api.ErrArgument)
	}
	for _, h := range invalidMaps() {
		two(h, point)
		two(h, api.Triple{})
		for _, c := range [][2]api.Homography{{h, good}, {good, h}, {h, h}} {
			g, code := homography.Compose(c[0], c[1])
			refused(t, "Compose", g[:], code, api.ErrArgument)
		}
		g, code := homography.Inverse(h)
		refused(t, "Inverse", g[:], code, api.ErrArgument)
	}
	for _, p := range invalidTriples() {
		two(good, p)
	}
}

// P27.4: homographies are a group, and points go the way of the maps one after the other.
func TestGroup(t *testing.T) {
	some(1000, func(r *rand.Rand) {
		f, g, h, p := randomMap(r), randomMap(r), randomMap(r), random(r)
		gh, code := homography.Compose(g, h)
		if code != api.OK || !homography.Valid(gh) {
			t.Fatalf("Compose(%s, %s) = %s, %d", text(g[:]...), text(h[:]...), text(gh[:]...), code)
		}
		q, other := apply(t, gh, p), apply(t, g, apply(t, h, p))
		equal(t, "one after the other", q[:], api.OK, other[:])
		fg, _ := homography.Compose(f, g)
		left, code := homography.Compose(fg, h)
		right, _ := homography.Compose(f, gh)
		equal(t, "the associative law", left[:], code, right[:])
		unit := homography.Identity()
		same, code := homography.Compose(unit, h)
		equal(t, "the unit at the left", same[:], code, h[:])
		same, code = homography.Compose(h, unit)
		equal(t, "the unit at the right", same[:], code, h[:])
		inverse, code := homography.Inverse(h)
		if code != api.OK || !homography.Valid(inverse) {
			t.Fatalf("Inverse(%s) = %s, %d", text(h[:]...), text(inverse[:]...), code)
		}
		same, code = homography.Compose(inverse, h)
		equal(t, "the inverse at the left", same[:], code, unit[:])
		same, code = homography.Compose(h, inverse)
		equal(t, "the inverse at the right", same[:], code, unit[:])
		back := apply(t, inverse, apply(t, h, p))
		equal(t, "back again", back[:], api.OK, p[:])
		same, code = homography.Inverse(inverse)
		equal(t, "the inverse of the inverse", same[:], code, h[:])
	})
	// Maps that do not commute.
	turn, shift := nine(0, 1, 0, -1, 0, 0, 0, 0, 1), nine(1, 0, 5, 0, 1, 0, 0, 0, 1)
	h, code := homography.Compose(shift, turn)
	equal(t, "Compose", h[:], code, ints([]int{0, 1, 5, -1, 0, 0, 0, 0, 1}))
	h, code = homography.Compose(turn, shift)
	equal(t, "Compose", h[:], code, ints([]int{0, 1, 0, -1, 0, -5, 0, 0, 1}))
}

// P27.5: the line through two points becomes the line through their images.
func TestLines(t *testing.T) {
	some(1500, func(r *rand.Rand) {
		h, p, q := randomMap(r), random(r), random(r)
		line, code := homography.Join(p, q)
		if code != api.OK {
			return
		}
		image, _ := homography.Line(h, line)
		want, code := homography.Join(apply(t, h, p), apply(t, h, q))
		equal(t, "Line", image[:], code, want[:])
	})
}

// Arguments stay as they are, and results are new memory.
func TestNothingIsShared(t *testing.T) {
	some(200, func(r *rand.Rand) {
		g, h, p, q := randomMap(r), randomMap(r), random(r), random(r)
		m, place := rows(matrix(r)), api.Place{X: ofRat(number(r)), Y: ofRat(number(r))}
		arguments := slices.Concat(g[:], h[:], p[:], q[:], flat(place.X, place.Y), flat(slices.Concat(m...)...))
		before := text(arguments...)
		var results []api.Int
		keep := func(l ...api.Int) { results = append(results, l...) }
		of, _ := homography.Of(m)
		unit, again := homography.Identity(), homography.Identity()
		point, _ := homography.Point(place)
		back, _ := homography.Place(point)
		line, _ := homography.Join(p, q)
		image, _ := homography.Apply(h, p)
		same, _ := homography.Apply(unit, p)
		moved, _ := homography.Line(h, p)
		still, _ := homography.Line(unit, p)
		both, _ := homography.Compose(g, h)
		left, _ := homography.Compose(unit, h)
		inverse, _ := homography.Inverse(h)
		four, _ := homography.Four([4]api.Pair{pair(0, 0, 0, 0), pair(1, 0, 2, 0), pair(0, 1, 0, 2), pair(1, 1, 4, 4)})
		ratio, _ := homography.Ratio(triple(0, 0, 1), triple(1, 0, 1), triple(2, 0, 1), triple(3, 0, 1))
		distance, _ := homography.Error(h, pair(1, 2, 3, 4))
		for _, l := range []api.Homography{of, unit, again, both, left, inverse, four} {
			keep(l[:]...)
		}
		for _, l := range []api.Triple{point, line, image, same, moved, still} {
			keep(l[:]...)
		}
		keep(flat(back.X, back.Y, ratio, distance)...)
		for i, x := range results {
			rest := text(results[i+1:]...)
			overwrite(x)
			if text(results[i+1:]...) != rest || text(arguments...) != before {
				t.Fatalf("result %d shares memory", i)
			}
		}
	})
}
