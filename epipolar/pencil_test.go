package epipolar_test

import (
	"math/big"
	"math/rand"
	"slices"
	"testing"

	"fiducial/api"
	"fiducial/epipolar"
	"fiducial/polynomial"
)

// nearPairs are n pairs with coordinates from -size to size.
func nearPairs(r *rand.Rand, n, size int) []api.Pair {
	l := make([]api.Pair, n)
	for i := range l {
		l[i] = near(r, size)
		if i > 0 && size < 3 && r.Intn(8) == 0 {
			l[i] = l[r.Intn(i)]
		}
	}
	return l
}

// P28.2: the only matrix that satisfies all equations, if there is exactly one.
func TestEight(t *testing.T) {
	codes := map[api.Code]int{}
	some(1500, func(r *rand.Rand) {
		l := nearPairs(r, pick(r, 8, 8, 8, 9, 12), pick(r, 1, 2, 50, maxCoord))
		if r.Intn(3) == 0 {
			// The same height in both images, but for one pair: the matrix of these has the determinant 0, or there is none.
			for i := range l {
				l[i].To.Y = l[i].From.Y
			}
			l[len(l)-1].To.Y += r.Intn(2)
		}
		got, code := epipolar.Eight(l)
		codes[code]++
		switch basis := solutions(l); len(basis) {
		case 0:
			refused(t, "Eight", len(got) == 0, code, api.ErrMissing)
		case 1:
			equal(t, "Eight", got, code, basis[0].canon())
			for _, p := range l {
				residual, code := epipolar.Residual(got, p)
				same(t, "Residual", residual, code, rat(0))
			}
		default:
			refused(t, "Eight", len(got) == 0, code, api.ErrDegenerate)
		}
	})
	if codes[api.OK] < 300 || codes[api.ErrMissing] < 200 || codes[api.ErrDegenerate] < 100 {
		t.Errorf("codes %v", codes)
	}
}

// P28.2: the greatest number of pairs, which all satisfy a matrix, or not.
func TestEightMany(t *testing.T) {
	r := rand.New(rand.NewSource(3))
	var l []api.Pair
	for range maxPairs {
		y := coordinate(r)
		l = append(l, pair(coordinate(r), y, coordinate(r), y))
	}
	got, code := epipolar.Eight(l)
	equal(t, "Eight", got, code, matOf(0, 0, 0, 0, 0, 1, 0, -1, 0))
	l[63].To.Y = l[63].From.Y/2 + 1
	got, code = epipolar.Eight(l)
	refused(t, "Eight", len(got) == 0, code, api.ErrMissing)
	// A plane: the points of both images are equal.
	for i := range l {
		l[i].To = l[i].From
	}
	got, code = epipolar.Eight(l)
	refused(t, "Eight", len(got) == 0, code, api.ErrDegenerate)
}

// P28.2 and P28.3: too few or too many pairs, before coordinates that are out of range, before what the pairs are.
func TestPairsErrors(t *testing.T) {
	eight := func(l []api.Pair, want api.Code) {
		t.Helper()
		got, code := epipolar.Eight(l)
		refused(t, "Eight", len(got) == 0, code, want)
	}
	seven := func(l []api.Pair, want api.Code) {
		t.Helper()
		got, code := epipolar.Seven(l)
		refused(t, "Seven", len(got) == 0, code, want)
	}
	for _, n := range []int{0, 1, 6, 7, 8, 9, 64, 65, 300} {
		l := make([]api.Pair, n)
		eightLimit, sevenLimit := n < 8 || n > maxPairs, n != 7
		codeOf := func(isLimit bool, other api.Code) api.Code {
			if isLimit {
				return api.ErrLimit
			}
			return other
		}
		eight(l, codeOf(eightLimit, api.ErrDegenerate))
		seven(l, codeOf(sevenLimit, api.ErrDegenerate))
		for i := range l {
			for _, bad := range outsidePairs()[:4+n%2] {
				l[i] = bad
				eight(l, codeOf(eightLimit, api.ErrRange))
				seven(l, codeOf(sevenLimit, api.ErrRange))
				l[i] = api.Pair{}
			}
		}
	}
	for _, bad := range outsidePairs() {
		eight(append(make([]api.Pair, 7), bad), api.ErrRange)
		seven(append(make([]api.Pair, 6), bad), api.ErrRange)
	}
	eight(nil, api.ErrLimit)
	seven(nil, api.ErrLimit)
}

// cubic is the determinant of s a + b as a polynomial in s, from its values.
func cubic(a, b mat) api.Poly {
	at := func(s int) *big.Rat { return a.scaled(rat(s)).plus(b).determinant() }
	c0, c3 := at(0), a.determinant()
	half := big.NewRat(1, 2)
	c2 := sub(mul(half, add(at(1), at(-1))), c0)
	c1 := sub(mul(half, sub(at(1), at(-1))), c3)
	return polynomial.Clean([]api.Rat{ofRat(c0), ofRat(c1), ofRat(c2), ofRat(c3)})
}

// P28.3: the pencils of the two matrices of the null space, one for each real root, and the first matrix itself if it is singular.
func TestSeven(t *testing.T) {
	codes, degrees, counts := map[api.Code]int{}, map[int]int{}, map[int]int{}
	check := func(l []api.Pair) {
		got, code := epipolar.Seven(l)
		codes[code]++
		basis := solutions(l)
		if len(basis) > 2 {
			refused(t, "Seven", len(got) == 0, code, api.ErrDegenerate)
			return
		}
		a, b := basis[0], basis[1]
		d := cubic(a, b)
		degrees[polynomial.Degree(d)]++
		if polynomial.Degree(d) < 0 {
			refused(t, "Seven", len(got) == 0, code, api.ErrDegenerate)
			return
		}
		roots, _ := polynomial.Isolate(d)
		counts[len(roots)]++
		want := make([][4]string, 0)
		for _, root := range roots {
			want = append(want, [4]string{rowsText(a.rows()), rowsText(b.rows()), text(root.Low), text(root.High)})
		}
		if polynomial.Degree(d) < 3 {
			want = append(want, [4]string{rowsText(matOf(0, 0, 0, 0, 0, 0, 0, 0, 0).rows()), rowsText(a.rows()), "0", "0"})
		}
		var list [][4]string
		for _, m := range got {
			list = append(list, [4]string{rowsText(m.A), rowsText(m.B), text(m.Root.Low), text(m.Root.High)})
		}
		if code != api.OK || !slices.Equal(list, want) {
			t.Fatalf("Seven(%v) = %v, %d, want %v", l, list, code, want)
		}
		for _, m := range got {
			for _, p := range l {
				// Both matrices satisfy the equation, and so does each s A + B.
				if read(m.A).residual(p).Sign() != 0 || read(m.B).residual(p).Sign() != 0 {
					t.Fatalf("Seven(%v) = %v", l, list)
				}
			}
		}
	}
	some(2500, func(r *rand.Rand) {
		check(nearPairs(r, 7, pick(r, 1, 1, 2, 3, 20)))
	})
	some(40, func(r *rand.Rand) {
		check(nearPairs(r, 7, maxCoord))
	})
	// Pairs of a matrix with a determinant other than 0, with small numbers: the first matrix of the null space may be singular.
	some(1500, func(r *rand.Rand) {
		l := nearPairs(r, 7, 2)
		for i := range l {
			if r.Intn(2) == 0 {
				l[i].From = api.Pix{}
			} else {
				l[i].To = api.Pix{X: pick(r, 0, 1)}
			}
		}
		check(l)
	})
	if codes[api.OK] < 1000 || codes[api.ErrDegenerate] < 500 || degrees[-1] < 50 || degrees[0] < 2 || degrees[1] < 20 || degrees[2] < 50 || counts[0] < 5 || counts[1] < 100 || counts[2] < 50 || counts[3] < 100 {
		t.Errorf("codes %v, degrees %v, numbers of roots %v", codes, degrees, counts)
	}
}
