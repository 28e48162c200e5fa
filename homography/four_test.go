package homography_test

import (
	"math/big"
	"math/rand"
	"slices"
	"testing"

	"fiducial/api"
	"fiducial/homography"
)

// null is a basis of the vectors that some rows take to 0, by Gauss's elimination.
func null(rows [][]*big.Rat, n int) [][]*big.Rat {
	var pivots []int
	for j := range n {
		k := len(pivots)
		i := k
		for i < len(rows) && rows[i][j].Sign() == 0 {
			i++
		}
		if i == len(rows) {
			continue
		}
		rows[i], rows[k] = rows[k], rows[i]
		for i, row := range rows {
			factor := quo(row[j], rows[k][j])
			for m := range row {
				if i != k {
					row[m] = sub(row[m], mul(factor, rows[k][m]))
				}
			}
		}
		pivots = append(pivots, j)
	}
	var basis [][]*big.Rat
	for j := range n {
		if slices.Contains(pivots, j) {
			continue
		}
		v := slices.Repeat([]*big.Rat{rat(0)}, n)
		v[j] = rat(1)
		for k, pivot := range pivots {
			v[pivot] = quo(new(big.Rat).Neg(rows[k][j]), rows[k][pivot])
		}
		basis = append(basis, v)
	}
	return basis
}

// area is twice the area of a triangle.
func area(a, b, c api.Pix) int { return (b.X-a.X)*(c.Y-a.Y) - (b.Y-a.Y)*(c.X-a.X) }

// isGeneral reports whether no three of four points lie on a line.
func isGeneral(p [4]api.Pix) bool {
	return area(p[0], p[1], p[2]) != 0 && area(p[0], p[1], p[3]) != 0 && area(p[0], p[2], p[3]) != 0 && area(p[1], p[2], p[3]) != 0
}

// split are the points From, and the points To.
func split(pairs [4]api.Pair) (from, to [4]api.Pix) {
	for i, p := range pairs {
		from[i], to[i] = p.From, p.To
	}
	return from, to
}

// taken are the maps that take From to To, as a basis of their matrices: of each pair, two products of the image with lines through To must be 0.
func taken(pairs [4]api.Pair) [][]*big.Rat {
	var rows [][]*big.Rat
	for _, p := range pairs {
		x, y, u, v := rat(p.From.X), rat(p.From.Y), rat(-p.To.X), rat(-p.To.Y)
		zero, one := rat(0), rat(1)
		rows = append(rows, []*big.Rat{x, y, one, zero, zero, zero, mul(u, x), mul(u, y), u}, []*big.Rat{zero, zero, zero, x, y, one, mul(v, x), mul(v, y), v})
	}
	return null(rows, 9)
}

// P27.6: the map takes the four points to the four points, and it is the only one.
func TestFour(t *testing.T) {
	good := 0
	some(1500, func(r *rand.Rand) {
		size := pick(r, 2, 5, 100, maxCoord)
		coordinate := func() int { return pick(r, r.Intn(2*size+1)-size, r.Intn(2*size+1)-size, r.Intn(2*size+1)-size, size) }
		var pairs [4]api.Pair
		for i := range pairs {
			pairs[i] = pair(coordinate(), coordinate(), coordinate(), coordinate())
		}
		h, code := homography.Four(pairs)
		from, to := split(pairs)
		if !isGeneral(from) || !isGeneral(to) {
			refused(t, "Four", h[:], code, api.ErrDegenerate)
			return
		}
		good++
		basis := taken(pairs)
		if len(basis) != 1 {
			t.Fatalf("%d maps for %v", len(basis), pairs)
		}
		equal(t, "Four", h[:], code, canonical(basis[0]))
		if !homography.Valid(h) {
			t.Fatalf("Four(%v) = %s", pairs, text(h[:]...))
		}
		for i := range pairs {
			image := apply(t, h, tripleOf([]*big.Rat{rat(from[i].X), rat(from[i].Y), rat(1)}))
			equal(t, "Apply", image[:], api.OK, canonical([]*big.Rat{rat(to[i].X), rat(to[i].Y), rat(1)}))
		}
		// The order of the pairs does not matter.
		r.Shuffle(4, func(i, j int) { pairs[i], pairs[j] = pairs[j], pairs[i] })
		again, code := homography.Four(pairs)
		equal(t, "Four of the pairs in another order", again[:], code, h[:])
	})
	if good < 700 {
		t.Errorf("%d maps", good)
	}
	h, code := homography.Four([4]api.Pair{pair(0, 0, 0, 0), pair(1, 0, 2, 0), pair(0, 1, 0, 2), pair(1, 1, 4, 4)})
	equal(t, "Four", h[:], code, ints([]int{4, 0, 0, 0, 4, 0, -1, -1, 3}))
}

// P27.6: all fours of points of a small grid, on either side: which are degenerate.
func TestFourDegenerate(t *testing.T) {
	square := [4]api.Pix{{X: 0, Y: 0}, {X: maxCoord, Y: 0}, {X: 0, Y: -maxCoord}, {X: maxCoord, Y: 7}}
	for n := range 9 * 9 * 9 * 9 {
		var p [4]api.Pix
		for i, m := 0, n; i < 4; i, m = i+1, m/9 {
			p[i] = api.Pix{X: m % 3, Y: m / 3 % 3}
		}
		var pairs, turned [4]api.Pair
		for i := range p {
			pairs[i], turned[i] = api.Pair{From: p[i], To: square[i]}, api.Pair{From: square[i], To: p[i]}
		}
		want := api.OK
		if !isGeneral(p) {
			want = api.ErrDegenerate
		}
		for _, l := range [][4]api.Pair{pairs, turned} {
			h, code := homography.Four(l)
			if code != want || homography.Valid(h) != (want == api.OK) || want != api.OK && !isBlank(h[:]...) {
				t.Fatalf("Four(%v) = %s, %d", l, text(h[:]...), code)
			}
		}
	}
}

// P27.6: coordinates that are out of range, before points on a line.
func TestFourRange(t *testing.T) {
	for _, bad := range outsidePairs() {
		for _, rest := range [][4]api.Pair{{pair(0, 0, 0, 0), pair(1, 0, 2, 0), pair(0, 1, 0, 2), pair(1, 1, 4, 4)}, {}} {
			for i := range rest {
				l := rest
				l[i] = bad
				h, code := homography.Four(l)
				refused(t, "Four", h[:], code, api.ErrRange)
			}
		}
	}
}

// onLine is the point u a + v b.
func onLine(u, v *big.Rat, a, b api.Triple) []*big.Rat {
	p, q := bigs(a[:]...), bigs(b[:]...)
	var l []*big.Rat
	for i := range 3 {
		l = append(l, add(mul(u, p[i]), mul(v, q[i])))
	}
	return l
}

// P27.7: the cross ratio of four points of a line, which no homography changes.
func TestRatio(t *testing.T) {
	codes, zeros, ones := map[api.Code]int{}, 0, 0
	some(3000, func(r *rand.Rand) {
		a, b := random(r), random(r)
		if text(a[:]...) == text(b[:]...) {
			return
		}
		var parts [4][2]*big.Rat
		var points [4]api.Triple
		for i := range points {
			l := numbers(r, 2)
			if i > 0 && r.Intn(6) == 0 {
				l = parts[r.Intn(i)][:]
			}
			parts[i] = [2]*big.Rat{l[0], l[1]}
			points[i] = tripleOf(onLine(l[0], l[1], a, b))
		}
		bracket := func(i, j int) *big.Rat {
			return sub(mul(parts[i][0], parts[j][1]), mul(parts[i][1], parts[j][0]))
		}
		h := randomMap(r)
		var images [4]api.Triple
		for i, p := range points {
			images[i] = apply(t, h, p)
		}
		got, code := homography.Ratio(points[0], points[1], points[2], points[3])
		image, other := homography.Ratio(images[0], images[1], images[2], images[3])
		below := mul(bracket(0, 3), bracket(1, 2))
		codes[code]++
		if below.Sign() == 0 {
			refused(t, "Ratio", flat(got, image), code, api.ErrDegenerate)
			refused(t, "Ratio", flat(got, image), other, api.ErrDegenerate)
			return
		}
		want := ofRat(quo(mul(bracket(0, 2), bracket(1, 3)), below))
		if code != api.OK || other != api.OK || ratText(got, image) != ratText(want, want) {
			t.Fatalf("Ratio = %s, %d, %d, want %s", ratText(got, image), code, other, ratText(want))
		}
		switch ratText(want) {
		case "0":
			zeros++
		case "1":
			ones++
		}
	})
	if codes[api.OK] < 1000 || codes[api.ErrDegenerate] < 500 || zeros < 100 || ones < 100 {
		t.Errorf("codes %v, %d zeros, %d ones", codes, zeros, ones)
	}
	got, code := homography.Ratio(triple(0, 0, 1), triple(1, 0, 1), triple(2, 0, 1), triple(3, 0, 1))
	if code != api.OK || ratText(got) != "4/3" {
		t.Errorf("Ratio = %s, %d", ratText(got), code)
	}
}

// P27.7: a point beside the line of the three others, at any place.
func TestRatioBeside(t *testing.T) {
	beside := 0
	some(1000, func(r *rand.Rand) {
		a, b, c := random(r), random(r), random(r)
		if determinant(bigs(slices.Concat(a[:], b[:], c[:])...)).Sign() == 0 {
			return
		}
		beside++
		points := [3]api.Triple{a, b, tripleOf(onLine(rat(1+r.Intn(3)), rat(1+r.Intn(3)), a, b))}
		if r.Intn(3) == 0 {
			points[2] = points[r.Intn(2)]
		}
		r.Shuffle(3, func(i, j int) { points[i], points[j] = points[j], points[i] })
		l := slices.Insert(points[:], r.Intn(4), c)
		got, code := homography.Ratio(l[0], l[1], l[2], l[3])
		refused(t, "Ratio", flat(got), code, api.ErrDegenerate)
	})
	if beside < 700 {
		t.Errorf("%d beside", beside)
	}
	p, q := triple(1, 2, 1), triple(3, 4, 1)
	for _, l := range [][4]api.Triple{{p, p, p, p}, {p, p, p, q}, {p, q, q, p}, {p, q, p, p}, {p, q, q, q}} {
		got, code := homography.Ratio(l[0], l[1], l[2], l[3])
		refused(t, "Ratio of few points", flat(got), code, api.ErrDegenerate)
	}
	for _, bad := range invalidTriples() {
		for i := range 4 {
			for _, l := range [][4]api.Triple{{p, p, p, p}, {triple(0, 0, 1), triple(1, 0, 1), triple(2, 0, 1), triple(3, 0, 1)}} {
				l[i] = bad
				got, code := homography.Ratio(l[0], l[1], l[2], l[3])
				refused(t, "Ratio", flat(got), code, api.ErrArgument)
			}
		}
	}
}

// P27.8: the squared distance of the image, which is 0 for the image alone.
func TestError(t *testing.T) {
	codes, zeros := map[api.Code]int{}, 0
	some(3000, func(r *rand.Rand) {
		h := randomMap(r)
		if r.Intn(3) == 0 {
			h = homographyOf(bigs(ints([]int{1, r.Intn(3), r.Intn(99), 0, 1, r.Intn(9) - 9, 0, r.Intn(2), 1})...))
		}
		size := pick(r, 1, 3, 1000, maxCoord)
		p := pair(r.Intn(2*size+1)-size, r.Intn(2*size+1)-size, r.Intn(2*size+1)-size, pick(r, size, -size))
		q := times(bigs(h[:]...), []*big.Rat{rat(p.From.X), rat(p.From.Y), rat(1)})
		if place, code := homography.Place(apply(t, h, tripleOf([]*big.Rat{rat(p.From.X), rat(p.From.Y), rat(1)}))); code == api.OK && r.Intn(2) == 0 {
			// The image itself, if it is an image point.
			x, y := ratOf(place.X), ratOf(place.Y)
			if x.IsInt() && y.IsInt() && x.Num().CmpAbs(big.NewInt(maxCoord)) <= 0 && y.Num().CmpAbs(big.NewInt(maxCoord)) <= 0 {
				p.To = api.Pix{X: int(x.Num().Int64()), Y: int(y.Num().Int64())}
			}
		}
		got, code := homography.Error(h, p)
		codes[code]++
		if q[2].Sign() == 0 {
			refused(t, "Error", flat(got), code, api.ErrOutside)
			return
		}
		x, y := sub(quo(q[0], q[2]), rat(p.To.X)), sub(quo(q[1], q[2]), rat(p.To.Y))
		want := ofRat(add(mul(x, x), mul(y, y)))
		if code != api.OK || ratText(got) != ratText(want) {
			t.Fatalf("Error(%s, %v) = %s, %d, want %s", text(h[:]...), p, ratText(got), code, ratText(want))
		}
		if ratText(want) == "0" {
			zeros++
		}
	})
	if codes[api.OK] < 2000 || codes[api.ErrOutside] < 50 || zeros < 200 {
		t.Errorf("codes %v, %d zeros", codes, zeros)
	}
}

// P27.8: the errors of Error in their order.
func TestErrorErrors(t *testing.T) {
	// This map takes the point (0, 0) to infinity.
	infinite := nine(0, 0, 1, 0, 1, 0, 1, 0, 0)
	got, code := homography.Error(infinite, api.Pair{})
	refused(t, "Error", flat(got), code, api.ErrOutside)
	for _, p := range outsidePairs() {
		got, code := homography.Error(infinite, p)
		refused(t, "Error", flat(got), code, api.ErrRange)
		for _, h := range invalidMaps() {
			got, code := homography.Error(h, p)
			refused(t, "Error", flat(got), code, api.ErrArgument)
		}
	}
	for _, h := range invalidMaps() {
		got, code := homography.Error(h, pair(1, 2, 3, 4))
		refused(t, "Error", flat(got), code, api.ErrArgument)
	}
	for _, p := range []api.Pair{pair(maxCoord, maxCoord, maxCoord, maxCoord), pair(-maxCoord, -maxCoord, -maxCoord, -maxCoord)} {
		if got, code := homography.Error(homography.Identity(), p); code != api.OK || ratText(got) != "0" {
			t.Errorf("Error = %s, %d", ratText(got), code)
		}
	}
}
