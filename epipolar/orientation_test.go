package epipolar_test

import (
	"math/big"
	"math/rand"
	"slices"
	"testing"

	"fiducial/api"
	"fiducial/epipolar"
	"fiducial/integer"
	"fiducial/rotation"
)

// inverse is that of a matrix.
func inverse(m mat) mat { return m.cofactors().turned().scaled(quo(rat(1), m.determinant())) }

// fundamental is the matrix of two stations, but for its factor.
func fundamental(a, b api.Station) mat {
	base := skew(position(b).minus(position(a)))
	return inverse(lens(b)).turned().by(turn(b.Turn).turned()).by(base).by(turn(a.Turn)).by(inverse(lens(a)))
}

// P28.4: the matrix of two stations, and the equation for points of space.
func TestOfStations(t *testing.T) {
	seen, equals := 0, 0
	some(500, func(r *rand.Rand) {
		a, b := station(r), station(r)
		if r.Intn(3) == 0 {
			a, b = small(r), small(r)
		}
		if r.Intn(8) == 0 {
			b.At = a.At
		}
		got, code := epipolar.OfStations(a, b)
		if a.At == b.At {
			equals++
			refused(t, "OfStations", len(got) == 0, code, api.ErrDegenerate)
			return
		}
		equal(t, "OfStations", got, code, fundamental(a, b).canon())
		f, inFirst, inSecond := read(got), images(a), images(b)
		for range 5 {
			p := vec{number(r), number(r), number(r)}
			first, isFirst := inFirst(p)
			second, isSecond := inSecond(p)
			if !isFirst || !isSecond {
				continue
			}
			seen++
			if second.dot(f.times(first)).Sign() != 0 {
				t.Fatalf("OfStations(%v, %v) = %s does not hold for %v", a, b, rowsText(got), p)
			}
		}
		// The matrix of the stations in the other order is the transposed one.
		turned, code := epipolar.OfStations(b, a)
		equal(t, "OfStations in the other order", turned, code, f.turned().canon())
	})
	if seen < 1000 || equals < 50 {
		t.Errorf("%d points seen, %d equal positions", seen, equals)
	}
	still := api.Quat{A: 1}
	a, b := api.Station{Turn: still, Focal: 64}, api.Station{At: api.Spot{X: 10}, Turn: still, Focal: 64}
	got, code := epipolar.OfStations(a, b)
	equal(t, "OfStations", got, code, matOf(0, 0, 0, 0, 0, 1, 0, -1, 0))
}

// P28.4 and P28.6: stations and matrices that are not valid: forms of all arguments before ranges, these before equal positions.
func TestStationErrors(t *testing.T) {
	good, e := api.Station{Turn: api.Quat{B: 1}, Focal: 1}, diagonal(1, 1, 0).rows()
	both := func(a, b api.Station, want api.Code) {
		t.Helper()
		got, code := epipolar.OfStations(a, b)
		refused(t, "OfStations", len(got) == 0, code, want)
		got, code = epipolar.Essential(e, a, b)
		refused(t, "Essential", len(got) == 0, code, want)
		for _, f := range invalidMatrices()[:6] {
			got, code = epipolar.Essential(f, a, b)
			refused(t, "Essential", len(got) == 0, code, api.ErrArgument)
		}
	}
	for _, bad := range restless() {
		both(bad, good, api.ErrArgument)
		both(good, bad, api.ErrArgument)
		both(bad, bad, api.ErrArgument)
		for _, other := range far() {
			both(bad, other, api.ErrArgument)
			both(other, bad, api.ErrArgument)
		}
	}
	for _, bad := range far() {
		both(bad, good, api.ErrRange)
		both(good, bad, api.ErrRange)
		both(bad, bad, api.ErrRange)
	}
	got, code := epipolar.OfStations(good, good)
	refused(t, "OfStations", len(got) == 0, code, api.ErrDegenerate)
	for _, f := range invalidMatrices() {
		got, code := epipolar.Essential(f, good, good)
		refused(t, "Essential", len(got) == 0, code, api.ErrArgument)
		is, code := epipolar.IsEssential(f)
		refused(t, "IsEssential", !is, code, api.ErrArgument)
		poses, code := epipolar.Decompose(f)
		refused(t, "Decompose", len(poses) == 0, code, api.ErrArgument)
	}
}

// toPix is an image point with whole coordinates in their range; false if it has others.
func toPix(v vec) (api.Pix, bool) {
	x, y := v[0], v[1]
	limit := big.NewInt(maxCoord)
	if !x.IsInt() || !y.IsInt() || x.Num().CmpAbs(limit) > 0 || y.Num().CmpAbs(limit) > 0 {
		return api.Pix{}, false
	}
	return api.Pix{X: int(x.Num().Int64()), Y: int(y.Num().Int64())}, true
}

// P28.5: images of points that are whole numbers give the matrix of the stations again.
func TestEightOfStations(t *testing.T) {
	found, degenerate := 0, 0
	some(60, func(r *rand.Rand) {
		a, b := small(r), small(r)
		// Divisible by most depths.
		a.Focal, b.Focal = 720720, 720720/pick(r, 1, 2, 3)
		isPlane := r.Intn(5) == 0
		if a.At == b.At {
			return
		}
		var l []api.Pair
		inFirst, inSecond := images(a), images(b)
		for range 300 {
			p := vecOf(r.Intn(25)-12, r.Intn(25)-12, r.Intn(25)-12)
			if isPlane {
				p[2] = rat(9)
			}
			first, isFirst := inFirst(p)
			second, isSecond := inSecond(p)
			if !isFirst || !isSecond {
				continue
			}
			from, isFrom := toPix(first)
			to, isTo := toPix(second)
			if isFrom && isTo && len(l) < maxPairs {
				l = append(l, api.Pair{From: from, To: to})
			}
		}
		if len(l) < 8 {
			return
		}
		got, code := epipolar.Eight(l)
		want, _ := epipolar.OfStations(a, b)
		switch {
		case code == api.ErrDegenerate && len(solutions(l)) > 1:
			degenerate++
		default:
			found++
			equal(t, "Eight", got, code, read(want))
		}
	})
	if found < 20 || degenerate < 3 {
		t.Errorf("%d found, %d degenerate", found, degenerate)
	}
}

// P28.6: the essential matrix of a fundamental one; that of two stations is essential.
func TestEssential(t *testing.T) {
	some(500, func(r *rand.Rand) {
		a, b, f := station(r), station(r), random(r)
		got, code := epipolar.Essential(f.rows(), a, b)
		equal(t, "Essential", got, code, lens(b).turned().by(f).by(lens(a)).canon())
		if a.At == b.At {
			return
		}
		f = fundamental(a, b)
		e, code := epipolar.Essential(f.rows(), a, b)
		base := skew(position(b).minus(position(a)))
		equal(t, "Essential", e, code, turn(b.Turn).turned().by(base).by(turn(a.Turn)).canon())
		if is, code := epipolar.IsEssential(e); code != api.OK || !is {
			t.Fatalf("IsEssential(%s) = %t, %d", rowsText(e), is, code)
		}
		// Neither positions nor turns matter.
		c, d := station(r), station(r)
		c.Focal, c.Centre, d.Focal, d.Centre = a.Focal, a.Centre, b.Focal, b.Centre
		again, code := epipolar.Essential(f.rows(), c, d)
		equal(t, "Essential of other stations", again, code, read(e))
	})
}

// essential is an essential matrix with any factor; if it is not plain, its k may be no fraction.
func essential(r *rand.Rand, isPlain bool) mat {
	for {
		m := skew(vec{number(r), number(r), number(r)}).by(turn(quat(r, 3)))
		if !isPlain {
			x, y := r.Intn(5), 1+r.Intn(5)
			m = turn(quat(r, 2)).by(matOf(x, y, 0, -y, x, 0, 0, 0, 0)).by(turn(quat(r, 2)))
		}
		k := number(r)
		if m = m.scaled(k); !m.isZero() {
			return m
		}
	}
}

// P28.6: which matrices are essential: all with small integers, and others that are almost.
func TestIsEssential(t *testing.T) {
	counts := map[bool]int{}
	check := func(m mat) {
		t.Helper()
		got, code := epipolar.IsEssential(m.rows())
		if code != api.OK || got != m.isEssential() {
			t.Fatalf("IsEssential(%s) = %t, %d", rowsText(m.rows()), got, code)
		}
		counts[got]++
	}
	for n := range 19683 {
		var m mat
		for k := range m {
			m[k] = rat(n%3 - 1)
			n /= 3
		}
		if !m.isZero() && (n%7 == 0 || m.isEssential()) {
			check(m)
		}
	}
	some(500, func(r *rand.Rand) {
		m := essential(r, r.Intn(2) == 0)
		if is, code := epipolar.IsEssential(m.rows()); !is || code != api.OK {
			t.Fatalf("IsEssential(%s) = %t, %d", rowsText(m.rows()), is, code)
		}
		check(m)
		k := r.Intn(9)
		m[k] = add(m[k], pick(r, rat(1), big.NewRat(1, 1<<60), number(r)))
		if !m.isZero() {
			check(m)
		}
		check(random(r))
	})
	for _, m := range []mat{diagonal(1, 1, 0), diagonal(0, -5, 5), diagonal(1, 2, 0), diagonal(1, 1, 1), diagonal(1, 0, 0), diagonal(2, 2, 1)} {
		check(m)
	}
	if counts[true] < 600 || counts[false] < 600 {
		t.Errorf("%v", counts)
	}
}

// squareRoot is the root of a number, or false if it is no fraction.
func squareRoot(x *big.Rat) (*big.Rat, bool) {
	root := new(big.Rat).SetFrac(new(big.Int).Sqrt(x.Num()), new(big.Int).Sqrt(x.Denom()))
	return root, mul(root, root).Cmp(x) == 0
}

// parts are u, k and the rotations R and S of an essential matrix, or false if k is no fraction. The vector u is what the transposed matrix takes to 0.
func parts(e mat) (vec, *big.Rat, []mat, bool) {
	columns := e.turned()
	var rows [][]*big.Rat
	for i := range 3 {
		v := columns.row(i)
		rows = append(rows, v[:])
	}
	u := vec(canonical(null(rows, 3)[0]))
	length := u.dot(u)
	k, ok := squareRoot(quo(e.trace(), mul(rat(2), length)))
	if !ok {
		return vec{}, nil, nil, false
	}
	one := e.cofactors().scaled(quo(rat(1), mul(k, k)))
	two := skew(u).by(e).scaled(quo(rat(1), k))
	part := quo(rat(1), length)
	return u, k, []mat{one.plus(two.scaled(rat(-1))).scaled(part), one.plus(two).scaled(part)}, true
}

// baseText has the texts of the numbers of a base; what is not canonical is marked.
func baseText(base [3]api.Int) string {
	one := integer.Of(1)
	return text(api.Rat{Num: base[0], Den: one}, api.Rat{Num: base[1], Den: one}, api.Rat{Num: base[2], Den: one})
}

// P28.7: the four orientations, in their order, whose products are multiples of the matrix.
func TestDecompose(t *testing.T) {
	codes := map[api.Code]int{}
	some(1500, func(r *rand.Rand) {
		e := essential(r, r.Intn(4) > 0)
		got, code := epipolar.Decompose(e.rows())
		codes[code]++
		u, k, rotations, ok := parts(e)
		if !ok {
			refused(t, "Decompose", len(got) == 0, code, api.ErrOutside)
			return
		}
		var want []api.Pose
		for _, m := range rotations {
			q, turnCode := rotation.OfMatrix(m.rows())
			if turnCode != api.OK {
				if turnCode != api.ErrLimit {
					t.Fatalf("no rotation: %d", turnCode)
				}
				refused(t, "Decompose", len(got) == 0, code, api.ErrLimit)
				return
			}
			for _, sign := range []int{1, -1} {
				var base [3]api.Int
				for i, x := range u {
					base[i] = ofInt(mul(x, rat(sign)).Num())
				}
				want = append(want, api.Pose{Turn: q, Base: base})
			}
		}
		if code != api.OK || len(got) != 4 {
			t.Fatalf("Decompose(%s): %d poses, %d", rowsText(e.rows()), len(got), code)
		}
		for i, pose := range got {
			if pose.Turn != want[i].Turn || baseText(pose.Base) != baseText(want[i].Base) {
				t.Fatalf("Decompose(%s)[%d] = %v %s, want %v", rowsText(e.rows()), i, pose.Turn, baseText(pose.Base), want[i])
			}
			// e = k [Base] R, with the other sign of k for -u.
			factor := k
			if i == 1 || i == 3 {
				factor = new(big.Rat).Neg(k)
			}
			if i > 1 {
				factor = new(big.Rat).Neg(factor)
			}
			base := vec{}
			for j, x := range pose.Base {
				base[j] = bigOf(api.Rat{Num: x, Den: integer.Of(1)})
			}
			product := skew(base).by(turn(pose.Turn))
			if !product.scaled(factor).plus(e.scaled(rat(-1))).isZero() && !product.scaled(factor).plus(e).isZero() {
				t.Fatalf("Decompose(%s)[%d] = %v %s", rowsText(e.rows()), i, pose.Turn, baseText(pose.Base))
			}
		}
	})
	if codes[api.OK] < 500 || codes[api.ErrOutside] < 100 || codes[api.ErrLimit] < 50 {
		t.Errorf("codes %v", codes)
	}
}

// P28.7: what the chapter's example says, and matrices that are not essential, or without a fraction as k.
func TestDecomposeExamples(t *testing.T) {
	poses, code := epipolar.Decompose(matOf(0, 0, 0, 0, 0, 1, 0, -1, 0).rows())
	half, still := api.Quat{B: 1}, api.Quat{A: 1}
	want := []struct {
		turn api.Quat
		base string
	}{{half, "1 0 0"}, {half, "-1 0 0"}, {still, "1 0 0"}, {still, "-1 0 0"}}
	if code != api.OK || len(poses) != 4 {
		t.Fatalf("Decompose: %v, %d", poses, code)
	}
	for i, pose := range poses {
		if pose.Turn != want[i].turn || baseText(pose.Base) != want[i].base {
			t.Errorf("pose %d: %v", i, pose)
		}
	}
	for _, m := range []mat{diagonal(1, 2, 0), diagonal(1, 1, 1), diagonal(0, 0, 3), matOf(1, 2, 3, 4, 5, 6, 7, 8, 9), matOf(1, 1, 0, -1, 1, 0, 0, 0, 0), matOf(1, 2, 0, -2, 1, 0, 0, 0, 0)} {
		poses, code := epipolar.Decompose(m.rows())
		refused(t, "Decompose", len(poses) == 0, code, api.ErrOutside)
	}
	poses, code = epipolar.Decompose(matOf(3, 4, 0, -4, 3, 0, 0, 0, 0).rows())
	if code != api.OK || len(poses) != 4 || baseText(poses[0].Base) != "0 0 1" {
		t.Errorf("Decompose: %v, %d", poses, code)
	}
}

// P28.7: one of the rotations is too large, the first or the second one.
func TestDecomposeLimit(t *testing.T) {
	first, second := 0, 0
	some(200, func(r *rand.Rand) {
		u := vecOf(pick(r, 1, 1<<12, 1<<18)+r.Intn(9), 1+r.Intn(7), 1+r.Intn(1<<12))
		q := quat(r, 1<<8)
		e := skew(u).by(turn(q)).scaled(rat(pick(r, 1, -1)))
		got, code := epipolar.Decompose(e.rows())
		_, _, rotations, _ := parts(e)
		_, one := rotation.OfMatrix(rotations[0].rows())
		_, two := rotation.OfMatrix(rotations[1].rows())
		if one != api.OK || two != api.OK {
			refused(t, "Decompose", len(got) == 0, code, api.ErrLimit)
		} else if code != api.OK {
			t.Fatalf("Decompose: %d", code)
		}
		if one != api.OK && two == api.OK {
			first++
		}
		if one == api.OK && two != api.OK {
			second++
		}
	})
	if first < 20 || second < 20 {
		t.Errorf("%d first, %d second ones too large", first, second)
	}
}

// P28.7: the orientation of two stations is one of the four.
func TestDecomposeOfStations(t *testing.T) {
	codes := map[api.Code]int{}
	some(400, func(r *rand.Rand) {
		a, b := station(r), station(r)
		if r.Intn(2) == 0 {
			a, b = small(r), small(r)
		}
		if a.At == b.At {
			return
		}
		f, _ := epipolar.OfStations(a, b)
		e, _ := epipolar.Essential(f, a, b)
		poses, code := epipolar.Decompose(e)
		codes[code]++
		if code == api.ErrLimit && len(poses) == 0 {
			return
		}
		conj, _ := rotation.Conj(b.Turn)
		relative, _ := rotation.Mul(conj, a.Turn)
		base := canonical(direction(a, b))
		isRight := func(pose api.Pose) bool {
			if pose.Turn != relative {
				return false
			}
			// The base has no common divisor, so that it is the canonical form, or its negative, with the signs of the direction.
			sign := 1
			for i, x := range direction(a, b) {
				if x.Sign() != 0 {
					sign = x.Sign() * base[i].Sign()
					break
				}
			}
			var want [3]api.Int
			for i, x := range base {
				want[i] = ofInt(mul(x, rat(sign)).Num())
			}
			return baseText(pose.Base) == baseText(want)
		}
		if code != api.OK || len(poses) != 4 || !slices.ContainsFunc(poses, isRight) {
			t.Fatalf("Decompose(%s) = %v, %d", rowsText(e), poses, code)
		}
	})
	if codes[api.OK] < 150 || codes[api.ErrLimit] < 50 || len(codes) != 2 {
		t.Errorf("codes %v", codes)
	}
}

// direction is that from the first station to the second one, in the frame of the second camera.
func direction(a, b api.Station) []*big.Rat {
	v := turn(b.Turn).turned().times(position(b).minus(position(a)))
	return v[:]
}

// P28.8: a similarity of space that moves both stations.
func TestSimilarity(t *testing.T) {
	moved := 0
	some(400, func(r *rand.Rand) {
		a, b := small(r), small(r)
		a.Focal, b.Focal, b.Centre = 1+r.Intn(maxFocal), 1+r.Intn(maxFocal), api.Pix{X: coordinate(r), Y: coordinate(r)}
		q := quat(r, 3)
		scale := (q.A*q.A + q.B*q.B + q.C*q.C + q.D*q.D) * (1 + r.Intn(4))
		shift := vecOf(coordinate(r)/2, coordinate(r)/2, r.Intn(9))
		similar := func(s api.Station) api.Station {
			p := turn(q).scaled(rat(scale)).times(position(s))
			var at [3]int
			for i := range at {
				at[i] = int(add(p[i], shift[i]).Num().Int64())
			}
			s.At = api.Spot{X: at[0], Y: at[1], Z: at[2]}
			s.Turn, _ = rotation.Mul(q, s.Turn)
			return s
		}
		f, code := epipolar.OfStations(a, b)
		g, other := epipolar.OfStations(similar(a), similar(b))
		if code != other || rowsText(f) != rowsText(g) {
			t.Fatalf("%v, %v: %s, %d; %v, %v: %s, %d", a, b, rowsText(f), code, similar(a), similar(b), rowsText(g), other)
		}
		if code == api.OK {
			moved++
		}
	})
	if moved < 300 {
		t.Errorf("%d moved", moved)
	}
}
