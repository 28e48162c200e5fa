package rotation_test

import (
	"fmt"
	"math"
	"math/big"
	"math/rand"
	"testing"

	"fiducial/api"
	"fiducial/fraction"
	"fiducial/matrix"
	"fiducial/rotation"
)

// P8.1: which quaternions are valid, and their canonical ones.
func TestCheckCanon(t *testing.T) {
	some(2000, func(r *rand.Rand) {
		q := random(r)
		if code := rotation.Check(q); code != api.OK {
			t.Fatalf("Check(%v): %d", q, code)
		}
		got, code := rotation.Canon(q)
		equal(t, fmt.Sprint("Canon ", q), got, code, bigQuat(q))
		if again, code := rotation.Canon(got); again != got || code != api.OK {
			t.Fatalf("Canon(%v) = %v, %d", got, again, code)
		}
	})
	for q, want := range map[api.Quat]api.Quat{
		quat(-2, 0, 4, 0):             quat(1, 0, -2, 0),
		quat(0, 0, 0, -limit):         quat(0, 0, 0, 1),
		quat(0, -6, 9, 15):            quat(0, 2, -3, -5),
		quat(limit, limit-1, 0, 0):    quat(limit, limit-1, 0, 0),
		quat(-limit, -limit, 0, 2):    quat(limit/2, limit/2, 0, -1),
		quat(1-limit, limit, 1, -1):   quat(limit-1, -limit, -1, 1),
		quat(0, 0, -limit, 1-limit):   quat(0, 0, limit, limit-1),
		quat(limit, limit, limit, -3): quat(limit, limit, limit, -3),
	} {
		if got, code := rotation.Canon(q); got != want || code != api.OK {
			t.Errorf("Canon(%v) = %v, %d", q, got, code)
		}
	}
}

// P8.1: the same rotation.
func TestSame(t *testing.T) {
	some(2000, func(r *rand.Rand) {
		p, q := small(r, 2), small(r, 2)
		want := proportional(p, q)
		if got := rotation.Same(p, q); got != want || rotation.Same(q, p) != want {
			t.Fatalf("Same(%v, %v) = %t", p, q, got)
		}
		k := []int{-7, -1, 2, limit / 2}[r.Intn(4)]
		if multiple := quat(k*p.A, k*p.B, k*p.C, k*p.D); !rotation.Same(p, multiple) {
			t.Fatalf("Same(%v, %v)", p, multiple)
		}
	})
	for q := range invalid() {
		if rotation.Same(q, q) || rotation.Same(q, quat(1, 0, 0, 0)) || rotation.Same(quat(1, 0, 0, 0), q) {
			t.Errorf("Same with %v", q)
		}
	}
	if rotation.Same(quat(2*limit, 0, 0, 0), quat(1, 0, 0, 0)) {
		t.Error("Same with a multiple that is not valid")
	}
}

// proportional reports whether one quaternion is a multiple of the other.
func proportional(p, q api.Quat) bool {
	x, y := parts(p), parts(q)
	for i := range x {
		for k := range x {
			if x[i]*y[k] != x[k]*y[i] {
				return false
			}
		}
	}
	return true
}

// P8.1: rotations about the Y axis.
func TestFlat(t *testing.T) {
	some(2000, func(r *rand.Rand) {
		q := random(r)
		if got := rotation.Flat(q); got != (q.B == 0 && q.D == 0) {
			t.Fatalf("Flat(%v) = %t", q, got)
		}
		if q.B, q.D = 0, 0; q.A != 0 || q.C != 0 {
			m := matrixOf(t, q)
			if !rotation.Flat(q) || text(m[1:2]) != "0 1 0" || fraction.Text(m[0][1])+fraction.Text(m[2][1]) != "00" {
				t.Fatalf("Flat(%v), matrix %s", q, text(m))
			}
		}
	})
	for q := range invalid() {
		if rotation.Flat(q) {
			t.Errorf("Flat(%v)", q)
		}
	}
	if rotation.Flat(quat(limit+1, 0, 1, 0)) || !rotation.Flat(quat(0, 0, -limit, 0)) || rotation.Flat(quat(1, 1, 0, 0)) || rotation.Flat(quat(1, 0, 0, -1)) {
		t.Error("Flat")
	}
}

// P8.2: products, also those that are too large, and inverse rotations.
func TestMulConj(t *testing.T) {
	within, beyond := 0, 0
	some(4000, func(r *rand.Rand) {
		p, q := random(r), random(r)
		got, code := rotation.Mul(p, q)
		if equal(t, fmt.Sprint("Mul ", p, q), got, code, bigQuat(p).times(bigQuat(q))) {
			within++
			product, _ := matrix.Mul(matrixOf(t, p), matrixOf(t, q))
			if m := matrixOf(t, got); text(m) != text(product) {
				t.Fatalf("Mul(%v, %v) = %v", p, q, got)
			}
		} else {
			beyond++
		}
		inverse, code := rotation.Conj(q)
		equal(t, fmt.Sprint("Conj ", q), inverse, code, bigQuat(q).conjugate())
		// The norm is the only common divisor of the product, whatever its size is.
		if unit, code := rotation.Mul(q, inverse); unit != quat(1, 0, 0, 0) || code != api.OK {
			t.Fatalf("Mul(%v, %v) = %v, %d", q, inverse, unit, code)
		}
		transposed, _ := matrix.Transpose(matrixOf(t, q))
		if m := matrixOf(t, inverse); text(m) != text(transposed) {
			t.Fatalf("Conj(%v) = %v", q, inverse)
		}
	})
	if within < 500 || beyond < 500 {
		t.Errorf("%d products, %d too large", within, beyond)
	}
	if q, code := rotation.Mul(quat(1, 1, 0, 0), quat(1, 0, 1, 0)); q != quat(1, 1, 1, 1) || code != api.OK {
		t.Errorf("the example: %v, %d", q, code)
	}
	if q, code := rotation.Mul(quat(1, 0, 1, 0), quat(1, 1, 0, 0)); q != quat(1, 1, 1, -1) || code != api.OK {
		t.Errorf("the example in the other order: %v, %d", q, code)
	}
}

// P8.2: products at the limit.
func TestMulLimit(t *testing.T) {
	for _, c := range []struct {
		p, q, want api.Quat
		code       api.Code
	}{
		{quat(1024, 1, 0, 0), quat(1024, -1, 0, 0), quat(1, 0, 0, 0), api.OK},
		{quat(1024, 1, 0, 0), quat(1024, 0, 1, 0), quat(limit, 1024, 1024, 1), api.OK},
		{quat(1024, 0, 0, 1), quat(1024, 0, 0, 1), quat(limit-1, 0, 0, 2048), api.OK},
		{quat(limit, 0, 0, 1), quat(2, 0, 0, 1), api.Quat{}, api.ErrLimit},
		{quat(limit, 1, 0, 0), quat(1, 0, 1, 0), quat(limit, 1, limit, 1), api.OK},
		{quat(limit, 1, 0, 0), quat(1, 1, 0, 0), api.Quat{}, api.ErrLimit},
		{quat(limit, limit, limit, limit), quat(limit, -limit, -limit, -limit), quat(1, 0, 0, 0), api.OK},
		{quat(-limit, limit, limit, limit-1), quat(limit, limit, 1-limit, limit), api.Quat{}, api.ErrLimit},
	} {
		got, code := rotation.Mul(c.p, c.q)
		equal(t, fmt.Sprint("Mul ", c.p, c.q), got, code, bigQuat(c.p).times(bigQuat(c.q)))
		if code != c.code || got != c.want {
			t.Errorf("Mul(%v, %v) = %v, %d", c.p, c.q, got, code)
		}
	}
}

// P8.3: matrices and vectors.
func TestMatrixApply(t *testing.T) {
	some(1000, func(r *rand.Rand) {
		q := random(r)
		m := matrixOf(t, q)
		for k := range 3 {
			unit := [3]api.Rat{fraction.Whole(0), fraction.Whole(0), fraction.Whole(0)}
			unit[k] = fraction.Whole(1)
			column := []api.Rat{m[0][k], m[1][k], m[2][k]}
			if want := turned(q, unit); listText(column) != listText(want) {
				t.Fatalf("Matrix(%v) = %s, column %d is not %s", q, text(m), k, listText(want))
			}
		}
		transposed, _ := matrix.Transpose(m)
		unit, _ := matrix.Mul(m, transposed)
		if d, _ := matrix.Determinant(m); text(unit) != "1 0 0;0 1 0;0 0 1" || fraction.Text(d) != "1" {
			t.Fatalf("Matrix(%v) = %s", q, text(m))
		}
		v := [3]api.Rat{number(r), number(r), number(r)}
		x, code := rotation.Apply(q, v)
		if want := turned(q, v); code != api.OK || listText(x[:]) != listText(want) {
			t.Fatalf("Apply(%v, %s) = %s, %d", q, listText(v[:]), listText(x[:]), code)
		}
		before, _ := fraction.Dot(v[:], v[:])
		if after, _ := fraction.Dot(x[:], x[:]); fraction.Compare(before, after) != 0 {
			t.Fatalf("Apply(%v, %s) = %s", q, listText(v[:]), listText(x[:]))
		}
	})
	if m := matrixOf(t, quat(-2, 0, 4, 0)); text(m) != "-3/5 0 -4/5;0 1 0;4/5 0 -3/5" {
		t.Errorf("the example: %s", text(m))
	}
	if m := matrixOf(t, quat(limit, limit, limit, limit)); text(m) != "0 0 1;1 0 0;0 1 0" {
		t.Errorf("the greatest quaternion: %s", text(m))
	}
	if m := matrixOf(t, quat(0, 0, 0, -1)); text(m) != "-1 0 0;0 -1 0;0 0 1" {
		t.Errorf("a half turn: %s", text(m))
	}
}

// P8.4: from the matrix back to the quaternion.
func TestOfMatrix(t *testing.T) {
	some(2000, func(r *rand.Rand) {
		q := random(r)
		want, _ := rotation.Canon(q)
		if got, code := rotation.OfMatrix(matrixOf(t, q)); got != want || code != api.OK {
			t.Fatalf("OfMatrix(Matrix(%v)) = %v, %d", q, got, code)
		}
	})
	// Half turns, whose first candidates are zero.
	for _, q := range []api.Quat{quat(0, 1, 0, 0), quat(0, 0, 1, 0), quat(0, 0, 0, 1), quat(0, 1, -1, 0), quat(0, 0, 3, -4), quat(0, 2, 0, 5), quat(0, 1, 2, 3), quat(1, 0, 0, 0)} {
		if got, code := rotation.OfMatrix(matrixOf(t, q)); got != q || code != api.OK {
			t.Errorf("OfMatrix(Matrix(%v)) = %v, %d", q, got, code)
		}
	}
	for s, want := range map[string]api.Quat{
		"0 -1 0;1 0 0;0 0 1":         quat(1, 0, 0, 1),
		"-1 0 0;0 -1 0;0 0 1":        quat(0, 0, 0, 1),
		"1 0 0;0 3/5 4/5;0 -4/5 3/5": quat(2, -1, 0, 0),
	} {
		if got, code := rotation.OfMatrix(rows(s)); got != want || code != api.OK {
			t.Errorf("OfMatrix(%s) = %v, %d", s, got, code)
		}
	}
}

// P8.4: rotations whose quaternion is too large.
func TestOfMatrixLimit(t *testing.T) {
	within, beyond := 0, 0
	some(600, func(r *rand.Rand) {
		p, q := random(r), random(r)
		m, _ := matrix.Mul(matrixOf(t, p), matrixOf(t, q))
		got, code := rotation.OfMatrix(m)
		if equal(t, "OfMatrix "+text(m), got, code, bigQuat(p).times(bigQuat(q))) {
			within++
		} else {
			beyond++
		}
	})
	if within < 100 || beyond < 100 {
		t.Errorf("%d rotations, %d too large", within, beyond)
	}
	for _, q := range []api.Quat{quat(limit, 1, 0, 0), quat(0, 1, -limit, 0), quat(limit, limit-1, limit, limit)} {
		if got, code := rotation.OfMatrix(matrixOf(t, q)); got != q || code != api.OK {
			t.Errorf("OfMatrix(Matrix(%v)) = %v, %d", q, got, code)
		}
	}
}

// P8.4: matrices that are no rotations.
func TestOfMatrixOutside(t *testing.T) {
	for _, s := range []string{
		"0 0 0;0 0 0;0 0 0", "1 0 0;0 1 0;0 0 -1", "-1 0 0;0 -1 0;0 0 -1", "0 1 0;1 0 0;0 0 1", "2 0 0;0 1 0;0 0 1", "2 0 0;0 2 0;0 0 2",
		"1 1 0;0 1 0;0 0 1", "1 0 0;1 0 0;1 0 0", "1 0 0;0 0 0;0 0 1", "1 0 0;0 1 0;0 0 1000000001/1000000000", "2 0 0;0 1/2 0;0 0 1",
	} {
		if q, code := rotation.OfMatrix(rows(s)); code != api.ErrOutside || q != (api.Quat{}) {
			t.Errorf("OfMatrix(%s) = %v, %d", s, q, code)
		}
	}
	some(500, func(r *rand.Rand) {
		m := matrixOf(t, random(r))
		change, _ := fraction.Of(1+r.Intn(3), 1+r.Intn(1<<40))
		i, k := r.Intn(3), r.Intn(3)
		old := m[i][k]
		m[i][k] = fraction.Add(old, change)
		if q, code := rotation.OfMatrix(m); code != api.ErrOutside && fraction.Compare(m[i][k], fraction.Neg(old)) != 0 {
			t.Fatalf("OfMatrix(%s) = %v, %d", text(m), q, code)
		}
		m[i][k] = old
		for k := range 3 {
			m[i][k] = fraction.Neg(m[i][k])
		}
		if q, code := rotation.OfMatrix(m); code != api.ErrOutside || q != (api.Quat{}) {
			t.Fatalf("OfMatrix(%s) = %v, %d", text(m), q, code)
		}
	})
}

// P8.5: quaternions of Cayley numbers.
func TestCayley(t *testing.T) {
	some(3000, func(r *rand.Rand) {
		u, v, w := number(r), number(r), number(r)
		got, code := rotation.Cayley(u, v, w)
		equal(t, "Cayley "+listText([]api.Rat{u, v, w}), got, code, bigFour([4]api.Rat{fraction.Whole(1), u, v, w}))
	})
	for s, want := range map[string]api.Quat{
		"1/2 0 -1/3":               quat(6, 3, 0, -2),
		"0 0 0":                    quat(1, 0, 0, 0),
		"1048576 0 -1048576":       quat(1, limit, 0, -limit),
		"0 1/1048576 0":            quat(limit, 0, 1, 0),
		"1/1024 1/1023 0":          quat(1024*1023, 1023, 1024, 0),
		"-1048575/1048576 -1 -1/2": quat(limit, 1-limit, -limit, -limit/2),
	} {
		l := list(s)
		if got, code := rotation.Cayley(l[0], l[1], l[2]); got != want || code != api.OK {
			t.Errorf("Cayley(%s) = %v, %d", s, got, code)
		}
	}
	for _, s := range []string{"1048577 0 0", "0 -1048577 0", "0 0 1/1048577", "1/1024 1/1025 0", "9223372036854775808 0 0", "0 0 1/100000000000000000000000000"} {
		l := list(s)
		if got, code := rotation.Cayley(l[0], l[1], l[2]); got != (api.Quat{}) || code != api.ErrLimit {
			t.Errorf("Cayley(%s) = %v, %d", s, got, code)
		}
	}
}

// P8.5: rounding.
func TestRound(t *testing.T) {
	some(3000, func(r *rand.Rand) {
		q := [4]api.Rat{number(r), number(r), number(r), number(r)}
		x := bigFour(q)
		if x.norm().Sign() == 0 {
			return
		}
		size := 1 + r.Intn([]int{3, 50, limit}[r.Intn(3)])
		greatest := new(big.Rat)
		for _, n := range x {
			if m := new(big.Rat).Abs(n); m.Cmp(greatest) > 0 {
				greatest = m
			}
		}
		var want four
		for i, n := range x {
			n = new(big.Rat).Mul(new(big.Rat).Quo(n, greatest), big.NewRat(int64(size), 1))
			want[i] = new(big.Rat).SetInt(nearest(n))
		}
		got, code := rotation.Round(q, size)
		if !equal(t, fmt.Sprint("Round ", listText(q[:]), size), got, code, want) {
			t.Fatalf("Round(%s, %d) = %v, %d", listText(q[:]), size, got, code)
		}
	})
	for _, c := range []struct {
		q    string
		size int
		want api.Quat
	}{
		{"1 1/3 0 0", 10, quat(10, 3, 0, 0)},
		{"2 1 -1 0", 1, quat(1, 1, 0, 0)}, // 1/2 becomes 1, -1/2 becomes 0
		{"-2 1 -1 0", 1, quat(1, -1, 0, 0)},
		{"0 0 0 -1/1000", 1 << 20, quat(0, 0, 0, 1)},
		{"1 -1 1 -1", 7, quat(1, -1, 1, -1)},
		{"1000000000000000000000000000000 1 0 0", limit, quat(1, 0, 0, 0)},
		{"3/7 6/7 0 0", limit, quat(1, 2, 0, 0)},
	} {
		if got, code := rotation.Round([4]api.Rat(list(c.q)), c.size); got != c.want || code != api.OK {
			t.Errorf("Round(%s, %d) = %v, %d", c.q, c.size, got, code)
		}
	}
}

// nearest is the nearest integer, of two the greater one.
func nearest(x *big.Rat) *big.Int {
	x = new(big.Rat).Add(x, big.NewRat(1, 2))
	return new(big.Int).Div(x.Num(), x.Denom())
}

// P8.5: the components of a canonical quaternion with its greatest magnitude as the size.
func TestRoundAgain(t *testing.T) {
	some(2000, func(r *rand.Rand) {
		q, _ := rotation.Canon(random(r))
		var x [4]api.Rat
		size := 0
		for i, n := range parts(q) {
			x[i] = fraction.Whole(n)
			size = max(size, n, -n)
		}
		if got, code := rotation.Round(x, size); got != q || code != api.OK {
			t.Fatalf("Round(%v, %d) = %v, %d", q, size, got, code)
		}
	})
}

// P8.6: chords.
func TestChord(t *testing.T) {
	some(2000, func(r *rand.Rand) {
		p, q := random(r), random(r)
		x, y := bigQuat(p), bigQuat(q)
		s := new(big.Rat)
		for i := range x {
			s.Add(s, new(big.Rat).Mul(x[i], y[i]))
		}
		want := new(big.Rat).Mul(s, s)
		want.Sub(big.NewRat(1, 1), want.Quo(want, new(big.Rat).Mul(x.norm(), y.norm())))
		got, code := rotation.Chord(p, q)
		if code != api.OK || !sameRat(got, ofBig(want)) {
			t.Fatalf("Chord(%v, %v) = %s, %d", p, q, fraction.Text(got), code)
		}
		other, _ := rotation.Chord(q, p)
		if !sameRat(got, other) || fraction.Sign(got) < 0 || fraction.Compare(got, fraction.Whole(1)) > 0 {
			t.Fatalf("Chord(%v, %v) = %s", p, q, fraction.Text(got))
		}
		if fraction.Sign(got) == 0 != rotation.Same(p, q) {
			t.Fatalf("Chord(%v, %v) = %s", p, q, fraction.Text(got))
		}
	})
	for _, c := range []struct {
		p, q api.Quat
		want string
	}{
		{quat(1, 0, 0, 0), quat(1, 1, 0, 0), "1/2"},
		{quat(1, 0, 0, 0), quat(0, 3, -4, 1), "1"},
		{quat(2, -4, 6, 8), quat(-1, 2, -3, -4), "0"},
		{quat(limit, limit, limit, limit), quat(limit, limit, limit, -limit), "3/4"},
		{quat(limit, limit, limit, limit), quat(-limit, -limit, -limit, -limit), "0"},
		{quat(limit, limit, limit, limit), quat(limit, limit, limit, limit-1), "1/5864059218604"},
	} {
		if got, code := rotation.Chord(c.p, c.q); fraction.Text(got) != c.want || code != api.OK {
			t.Errorf("Chord(%v, %v) = %s, %d", c.p, c.q, fraction.Text(got), code)
		}
	}
}

// P8.6: chords do not change when both rotations are multiplied by a third one.
func TestChordInvariant(t *testing.T) {
	some(2000, func(r *rand.Rand) {
		p, q, other := small(r, 200), small(r, 200), small(r, 200)
		want, _ := rotation.Chord(p, q)
		for i, multiply := range []func(x api.Quat) (api.Quat, api.Code){
			func(x api.Quat) (api.Quat, api.Code) { return rotation.Mul(other, x) },
			func(x api.Quat) (api.Quat, api.Code) { return rotation.Mul(x, other) },
		} {
			x, first := multiply(p)
			y, second := multiply(q)
			got, third := rotation.Chord(x, y)
			if !sameRat(got, want) || first != api.OK || second != api.OK || third != api.OK {
				t.Fatalf("%d: Chord(%v, %v) with %v: %s", i, p, q, other, fraction.Text(got))
			}
		}
	})
	if got, code := rotation.Chord(quat(1, 0, 0, 0), quat(math.MinInt, 0, 0, 0)); code != api.ErrLimit || !isBlank(got) {
		t.Errorf("Chord: %d", code)
	}
}
