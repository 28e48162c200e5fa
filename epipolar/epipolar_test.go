package epipolar_test

import (
	"math/big"
	"math/rand"
	"slices"
	"testing"

	"fiducial/api"
	"fiducial/epipolar"
	"fiducial/fraction"
	"fiducial/integer"
)

// equal fails the test unless a matrix has the entries that are wanted.
func equal(t *testing.T, what string, got api.Matrix, code api.Code, want mat) {
	t.Helper()
	if w := want.rows(); code != api.OK || rowsText(got) != rowsText(w) {
		t.Fatalf("%s = %s, %d, want %s", what, rowsText(got), code, rowsText(w))
	}
}

// same fails the test unless a fraction has the value that is wanted.
func same(t *testing.T, what string, got api.Rat, code api.Code, want *big.Rat) {
	t.Helper()
	if w := ofRat(want); code != api.OK || text(got) != text(w) {
		t.Fatalf("%s = %s, %d, want %s", what, text(got), code, text(w))
	}
}

// refused fails the test unless there is a code, and nothing else.
func refused(t *testing.T, what string, isEmpty bool, code, want api.Code) {
	t.Helper()
	if code != want || !isEmpty {
		t.Errorf("%s: %d, want %d; nothing else: %t", what, code, want, isEmpty)
	}
}

// P28.1: the canonical form of a matrix, and of its multiples.
func TestCanon(t *testing.T) {
	some(1500, func(r *rand.Rand) {
		m := random(r)
		got, code := epipolar.Canon(m.rows())
		equal(t, "Canon", got, code, m.canon())
		var divisor api.Int
		for k := range 9 {
			divisor = integer.Gcd(divisor, got[k/3][k%3].Num)
			if text(api.Rat{Num: got[k/3][k%3].Den, Den: integer.Of(1)}) != "1" {
				t.Fatalf("Canon = %s", rowsText(got))
			}
		}
		if integer.Text(divisor) != "1" {
			t.Fatalf("Canon = %s", rowsText(got))
		}
		again, code := epipolar.Canon(got)
		equal(t, "Canon of a canonical form", again, code, m.canon())
		if k := number(r); k.Sign() != 0 {
			again, code = epipolar.Canon(m.scaled(k).rows())
			equal(t, "Canon of a multiple", again, code, m.canon())
		}
	})
	got, code := epipolar.Canon(matOf(0, 0, 0, 0, -4, 6, 0, 0, 8).rows())
	equal(t, "Canon", got, code, matOf(0, 0, 0, 0, 2, -3, 0, 0, -4))
	for _, f := range invalidMatrices() {
		got, code := epipolar.Canon(f)
		refused(t, "Canon", len(got) == 0, code, api.ErrArgument)
	}
}

// P28.1: residuals, and their squares divided by those of the derivatives by the coordinates.
func TestResidualSampson(t *testing.T) {
	degenerate, zeros := 0, 0
	some(2000, func(r *rand.Rand) {
		m, p := random(r), anyPair(r)
		switch r.Intn(8) {
		case 0:
			m = matOf(0, 0, 0, 0, 0, 0, 0, 0, pick(r, 1, -7))
		case 1:
			// Both points are epipoles.
			p = near(r, 3)
			m = skew(point(p.To)).by(random(r)).by(skew(point(p.From)))
			if m.isZero() {
				return
			}
		case 2:
			m[8] = sub(m[8], m.residual(p))
			if m.isZero() {
				return
			}
		}
		want := m.residual(p)
		got, code := epipolar.Residual(m.rows(), p)
		same(t, "Residual", got, code, want)
		// The derivatives are differences, because the equation is linear in each coordinate.
		sum := rat(0)
		for _, moved := range []api.Pair{pair(1, 0, 0, 0), pair(0, 1, 0, 0), pair(0, 0, 1, 0), pair(0, 0, 0, 1)} {
			q := pair(p.From.X+moved.From.X, p.From.Y+moved.From.Y, p.To.X+moved.To.X, p.To.Y+moved.To.Y)
			derivative := sub(m.residual(q), want)
			sum = add(sum, mul(derivative, derivative))
		}
		got, code = epipolar.Sampson(m.rows(), p)
		if sum.Sign() == 0 {
			degenerate++
			refused(t, "Sampson", isBlank(got), code, api.ErrDegenerate)
			return
		}
		same(t, "Sampson", got, code, quo(mul(want, want), sum))
		if want.Sign() == 0 {
			zeros++
		}
	})
	if degenerate < 200 || zeros < 50 {
		t.Errorf("%d degenerate, %d zeros", degenerate, zeros)
	}
}

// P28.1: the inliers, also with a limit that is reached exactly; pairs without a distance are none.
func TestInliers(t *testing.T) {
	inliers, others, without := 0, 0, 0
	some(400, func(r *rand.Rand) {
		m := random(r)
		if r.Intn(3) == 0 {
			m = matOf(0, 0, 0, 0, 1, 0, 0, 0, pick(r, 0, 1))
		}
		l := make([]api.Pair, pick(r, 0, 1, 5, 20, 20, maxPairs))
		for i := range l {
			l[i] = near(r, pick(r, 2, 2, 30))
		}
		limit := new(big.Rat).Abs(number(r))
		if len(l) > 0 {
			if exact, code := epipolar.Sampson(m.rows(), l[0]); code == api.OK && r.Intn(2) == 0 {
				limit = bigOf(exact)
			}
		}
		var want []int
		for i, p := range l {
			distance, code := epipolar.Sampson(m.rows(), p)
			switch {
			case code != api.OK:
				without++
			case bigOf(distance).Cmp(limit) <= 0:
				want = append(want, i)
				inliers++
			default:
				others++
			}
		}
		before := slices.Clone(l)
		got, code := epipolar.Inliers(m.rows(), l, ofRat(limit))
		if code != api.OK || !slices.Equal(got, want) || !slices.Equal(l, before) {
			t.Fatalf("Inliers = %v, %d, want %v", got, code, want)
		}
	})
	if inliers < 500 || others < 500 || without < 100 {
		t.Errorf("%d inliers, %d others, %d without a distance", inliers, others, without)
	}
}

// P28.1: the errors of Residual, Sampson and Inliers in their order.
func TestErrors(t *testing.T) {
	// There is no distance from this matrix.
	last, one := matOf(0, 0, 0, 0, 0, 0, 0, 0, 1).rows(), fraction.Whole(1)
	both := func(f api.Matrix, p api.Pair, want api.Code) {
		t.Helper()
		got, code := epipolar.Residual(f, p)
		refused(t, "Residual", isBlank(got), code, want)
		got, code = epipolar.Sampson(f, p)
		refused(t, "Sampson", isBlank(got), code, want)
	}
	inliers := func(f api.Matrix, l []api.Pair, limit api.Rat, want api.Code) {
		t.Helper()
		got, code := epipolar.Inliers(f, l, limit)
		refused(t, "Inliers", len(got) == 0, code, want)
	}
	good := []api.Pair{pair(1, 2, 3, 4), pair(5, 6, 7, 8)}
	for _, p := range outsidePairs() {
		both(last, p, api.ErrRange)
		inliers(last, []api.Pair{good[0], p}, one, api.ErrRange)
		inliers(last, []api.Pair{p, good[0]}, fraction.Whole(-1), api.ErrRange)
		for _, bad := range notCanonical() {
			inliers(last, []api.Pair{good[0], p}, bad, api.ErrArgument)
		}
	}
	for _, f := range invalidMatrices() {
		both(f, good[0], api.ErrArgument)
		both(f, outsidePairs()[5], api.ErrArgument)
		inliers(f, good, one, api.ErrArgument)
		inliers(f, nil, one, api.ErrArgument)
		inliers(f, good, fraction.Whole(-1), api.ErrArgument)
		inliers(f, outsidePairs(), one, api.ErrArgument)
		inliers(f, make([]api.Pair, maxPairs+1), one, api.ErrLimit)
	}
	for _, bad := range notCanonical() {
		inliers(last, good, bad, api.ErrArgument)
		inliers(last, make([]api.Pair, maxPairs+1), bad, api.ErrLimit)
	}
	inliers(last, good, fraction.Whole(-1), api.ErrRange)
	inliers(last, nil, ofRat(big.NewRat(-1, 1<<40)), api.ErrRange)
	inliers(last, make([]api.Pair, maxPairs+1), fraction.Whole(-1), api.ErrLimit)
	inliers(last, slices.Repeat(outsidePairs(), 5), one, api.ErrLimit)
	inliers(last, make([]api.Pair, maxPairs), one, api.OK)
}

// P28.1 to P28.7: arguments stay as they are, and results are new memory.
func TestNothingIsShared(t *testing.T) {
	some(60, func(r *rand.Rand) {
		f, p := random(r).rows(), near(r, 9)
		a, b := small(r), small(r)
		b.At.X += 10
		var seven []api.Pair
		for range 7 {
			seven = append(seven, near(r, 3))
		}
		before := rowsText(f)
		var results []api.Int
		keep := func(l ...api.Rat) {
			for _, x := range l {
				results = append(results, x.Num, x.Den)
			}
		}
		canon, _ := epipolar.Canon(f)
		again, _ := epipolar.Canon(canon)
		fundamental, _ := epipolar.OfStations(a, b)
		e, _ := epipolar.Essential(fundamental, a, b)
		for _, m := range []api.Matrix{canon, again, fundamental, e} {
			keep(slices.Concat(m...)...)
		}
		residual, _ := epipolar.Residual(f, p)
		distance, _ := epipolar.Sampson(f, p)
		keep(residual, distance)
		members, _ := epipolar.Seven(seven)
		for _, m := range members {
			keep(slices.Concat(slices.Concat(m.A...), slices.Concat(m.B...))...)
			keep(m.Root.Low, m.Root.High)
		}
		poses, code := epipolar.Decompose(e)
		if code != api.OK {
			t.Fatalf("Decompose(%s): %d", rowsText(e), code)
		}
		for _, pose := range poses {
			results = append(results, pose.Base[:]...)
		}
		all := func(l []api.Int) string {
			var s string
			for _, x := range l {
				s += integer.Text(x) + " "
			}
			return s
		}
		for i, x := range results {
			rest := all(results[i+1:])
			overwrite(x)
			if all(results[i+1:]) != rest || rowsText(f) != before {
				t.Fatalf("result %d shares memory", i)
			}
		}
		for _, row := range slices.Concat(canon, e) {
			_ = append(row, api.Rat{})
			row[0] = api.Rat{}
		}
		if rowsText(f) != before {
			t.Fatal("Canon shares memory")
		}
	})
}
