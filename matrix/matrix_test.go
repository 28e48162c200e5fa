package matrix_test

import (
	"math"
	"math/big"
	"math/rand"
	"slices"
	"testing"

	"fiducial/api"
	"fiducial/fraction"
	"fiducial/matrix"
)

// P5.1: what is a matrix, and what is not.
func TestCheck(t *testing.T) {
	some(20, 5, func(r *rand.Rand, a api.Matrix) {
		if code := matrix.Check(a); code != api.OK {
			t.Fatalf("Check(%s): %d", text(a), code)
		}
	})
	for i, a := range notMatrices() {
		if code := matrix.Check(a); code != api.ErrArgument {
			t.Errorf("Check of value %d, %v: %d", i, a, code)
		}
	}
	for _, n := range []int{1, 2, 63, 64} {
		a, code := matrix.Identity(n)
		if code != api.OK || matrix.Check(a) != api.OK || matrix.Check(a[:1]) != api.OK {
			t.Errorf("Identity(%d): %d", n, code)
		}
	}
}

// P5.1: matrices of integers and unit matrices.
func TestOfIdentity(t *testing.T) {
	a, code := matrix.Of([][]int{{1, -2, 0}, {math.MinInt, math.MaxInt, 7}})
	if code != api.OK || text(a) != "1 -2 0;-9223372036854775808 9223372036854775807 7" {
		t.Errorf("Of = %s, %d", text(a), code)
	}
	long := make([][]int, 65)
	for i := range long {
		long[i] = make([]int, 64)
	}
	if a, code := matrix.Of(long[:64]); code != api.OK || len(a) != 64 || len(a[63]) != 64 {
		t.Errorf("Of 64 rows: %d", code)
	}
	for i, rows := range [][][]int{nil, {}, {nil}, {{}, {}}, {{1}, {2, 3}}, {{1, 2}, {3}}, {{1}, nil}, long, {make([]int, 65)}} {
		a, code := matrix.Of(rows)
		if zero(t, "Of", a); code != api.ErrArgument {
			t.Errorf("Of rows %d: %d", i, code)
		}
	}
	for _, n := range []int{1, 2, 5, 64} {
		a, code := matrix.Identity(n)
		equal(t, "Identity", a, code, made(n, n, func(i, j int) *big.Rat {
			if i == j {
				return big.NewRat(1, 1)
			}
			return new(big.Rat)
		}))
	}
	for _, n := range []int{0, -1, 65, math.MinInt, math.MaxInt} {
		a, code := matrix.Identity(n)
		if zero(t, "Identity", a); code != api.ErrRange {
			t.Errorf("Identity(%d): %d", n, code)
		}
	}
}

// P5.1: sums, differences and multiples.
func TestAddSubScale(t *testing.T) {
	some(10, 4, func(r *rand.Rand, a api.Matrix) {
		b, k := random(r, len(a), len(a[0])), number(r, r.Intn(3))
		x, y, z := refer(a), refer(b), bigOf(k)
		each := func(operation func(i, j int) *big.Rat) reference { return made(len(a), len(a[0]), operation) }
		sum, code := matrix.Add(a, b)
		equal(t, "Add", sum, code, each(func(i, j int) *big.Rat { return new(big.Rat).Add(x[i][j], y[i][j]) }))
		difference, code := matrix.Sub(a, b)
		equal(t, "Sub", difference, code, each(func(i, j int) *big.Rat { return new(big.Rat).Sub(x[i][j], y[i][j]) }))
		multiple, code := matrix.Scale(a, k)
		equal(t, "Scale", multiple, code, each(func(i, j int) *big.Rat { return new(big.Rat).Mul(z, x[i][j]) }))
	})
}

// P5.2: products, transposed matrices and images.
func TestProducts(t *testing.T) {
	some(10, 5, func(r *rand.Rand, a api.Matrix) {
		n := len(a[0])
		b, x := random(r, n, 1+r.Intn(5)), randomList(r, n, r.Intn(3))
		product, code := matrix.Mul(a, b)
		equal(t, "Mul", product, code, refer(a).times(refer(b)))
		transposed, code := matrix.Transpose(a)
		equal(t, "Transpose", transposed, code, refer(a).transposed())
		image, code := matrix.Apply(a, x)
		equal(t, "Apply", [][]api.Rat{image}, code, refer(a).times(column(x)).transposed())
		c := random(r, len(b[0]), 1+r.Intn(3))
		left, _ := matrix.Mul(product, c)
		bc, _ := matrix.Mul(b, c)
		if right, _ := matrix.Mul(a, bc); !same(left, right) {
			t.Fatalf("(%s) (%s) (%s)", text(a), text(b), text(c))
		}
		unit, _ := matrix.Identity(n)
		if same, code := matrix.Mul(a, unit); text(same) != text(a) || code != api.OK {
			t.Fatalf("%s times the unit matrix", text(a))
		}
	})
}

// P5.3: echelon forms, ranks and null spaces.
func TestEchelon(t *testing.T) {
	some(10, 6, func(r *rand.Rand, a api.Matrix) {
		want := refer(a)
		wantPivots := want.echelon()
		form, pivots, code := matrix.Echelon(a)
		equal(t, "Echelon", form, code, want)
		rank, code := matrix.Rank(a)
		if !slices.Equal(pivots, wantPivots) || rank != len(wantPivots) || code != api.OK {
			t.Fatalf("%s: pivots %d, rank %d, %d", text(a), pivots, rank, code)
		}
		basis, code := matrix.Null(a)
		equal(t, "Null", basis, code, nullOf(want, wantPivots))
		if rank+len(basis) != len(a[0]) {
			t.Fatalf("%s: rank %d, null space %s", text(a), rank, text(basis))
		}
		for _, v := range basis {
			if image, _ := matrix.Apply(a, v); !zeros(image) {
				t.Fatalf("%s does not take %s to 0", text(a), listText(v))
			}
		}
	})
	for _, c := range []struct {
		a, form string
		pivots  []int
		null    string
	}{
		{"1 2 3;2 4 6", "1 2 3;0 0 0", []int{0}, "-2 1 0;-3 0 1"},
		{"0 0;0 0;0 0", "0 0;0 0;0 0", nil, "1 0;0 1"},
		{"0 0 5", "0 0 1", []int{2}, "1 0 0;0 1 0"},
		{"0 1 2 0 3;0 0 0 1 4;0 2 4 3 18", "0 1 2 0 3;0 0 0 1 4;0 0 0 0 0", []int{1, 3}, "1 0 0 0 0;0 -2 1 0 0;0 -3 0 -4 1"},
		{"2 1;1 1", "1 0;0 1", []int{0, 1}, ""},
		{"-1/2;3", "1;0", []int{0}, ""},
	} {
		form, pivots, code := matrix.Echelon(rows(c.a))
		null, other := matrix.Null(rows(c.a))
		rank, third := matrix.Rank(rows(c.a))
		if text(form) != c.form || !slices.Equal(pivots, c.pivots) || text(null) != c.null || rank != len(c.pivots) || code != api.OK || other != api.OK || third != api.OK {
			t.Errorf("%s: %s, %d, %s, %d", c.a, text(form), pivots, text(null), rank)
		}
	}
}

// nullOf is the canonical basis of the null space, from the echelon form.
func nullOf(form reference, pivots []int) reference {
	var basis reference
	for j := range form[0] {
		if slices.Contains(pivots, j) {
			continue
		}
		v := made(1, len(form[0]), func(_, k int) *big.Rat { return new(big.Rat) })[0]
		v[j].SetInt64(1)
		for r, pivot := range pivots {
			v[pivot].Neg(form[r][j])
		}
		basis = append(basis, v)
	}
	return basis
}

// zeros reports whether all numbers of a list are 0.
func zeros(l []api.Rat) bool {
	return !slices.ContainsFunc(l, func(x api.Rat) bool { return fraction.Sign(x) != 0 })
}

// P5.4: determinants, and that they are multiplicative.
func TestDeterminant(t *testing.T) {
	squares(20, 5, func(r *rand.Rand, a api.Matrix) {
		got, code := matrix.Determinant(a)
		if code != api.OK || !sameRat(got, ofBig(refer(a).determinant())) {
			t.Fatalf("Determinant(%s) = %v, %d", text(a), got, code)
		}
		b := random(r, len(a), len(a))
		other, _ := matrix.Determinant(b)
		product, _ := matrix.Mul(a, b)
		if both, code := matrix.Determinant(product); code != api.OK || !sameRat(both, fraction.Mul(got, other)) {
			t.Fatalf("determinant of (%s) (%s)", text(a), text(b))
		}
	})
	for _, c := range [][2]string{{"2 1;1 1", "1"}, {"0 1;1 0", "-1"}, {"0 1 0;0 0 1;1 0 0", "1"}, {"-2/3", "-2/3"}, {"0", "0"}, {"1 2;2 4", "0"}, {"0 0 2;0 3 0;5 0 0", "-30"}} {
		if d, code := matrix.Determinant(rows(c[0])); fraction.Text(d) != c[1] || code != api.OK {
			t.Errorf("Determinant(%s) = %s, %d", c[0], fraction.Text(d), code)
		}
	}
}

// P5.5: inverses.
func TestInverse(t *testing.T) {
	squares(20, 6, func(r *rand.Rand, a api.Matrix) {
		inverse, code := matrix.Inverse(a)
		d, _ := matrix.Determinant(a)
		if fraction.Sign(d) == 0 {
			if zero(t, "Inverse", inverse); code != api.ErrSingular {
				t.Fatalf("Inverse(%s): %d", text(a), code)
			}
			return
		}
		unit, _ := matrix.Identity(len(a))
		left, _ := matrix.Mul(inverse, a)
		right, _ := matrix.Mul(a, inverse)
		if code != api.OK || !same(left, unit) || !same(right, unit) {
			t.Fatalf("Inverse(%s) = %s, %d", text(a), text(inverse), code)
		}
	})
	for _, c := range [][2]string{{"2 1;1 1", "1 -1;-1 2"}, {"-3", "-1/3"}, {"0 2;1/2 0", "0 2;1/2 0"}} {
		if inverse, code := matrix.Inverse(rows(c[0])); text(inverse) != c[1] || code != api.OK {
			t.Errorf("Inverse(%s) = %s, %d", c[0], text(inverse), code)
		}
	}
}

// P5.6: either there is a solution, with zeros in the free columns, or a refutation.
func TestSolveRefute(t *testing.T) {
	solved, refuted := 0, 0
	some(20, 5, func(r *rand.Rand, a api.Matrix) {
		b := randomList(r, len(a), 1)
		if r.Intn(3) == 0 {
			b, _ = matrix.Apply(a, randomList(r, len(a[0]), 1))
		}
		x, code := matrix.Solve(a, b)
		y, other := matrix.Refute(a, b)
		if code == api.OK {
			solved++
			checkSolution(t, a, b, x)
			if zero(t, "Refute", y); other != api.ErrMissing {
				t.Fatalf("Refute(%s, %s): %d", text(a), listText(b), other)
			}
			return
		}
		refuted++
		transposed, _ := matrix.Transpose(a)
		image, _ := matrix.Apply(transposed, y)
		value, _ := fraction.Dot(y, b)
		if zero(t, "Solve", x); code != api.ErrMissing || other != api.OK || !zeros(image) || !sameRat(value, rat("1")) || !matrix.CheckRefute(a, b, y) {
			t.Fatalf("%s, %s: %d, %d, %s", text(a), listText(b), code, other, listText(y))
		}
	})
	if solved < 100 || refuted < 100 {
		t.Errorf("%d solved, %d refuted", solved, refuted)
	}
	// Example 2, and a system that has many solutions.
	a := rows("1 2 3;2 4 6")
	if x, code := matrix.Solve(a, list("1 2")); listText(x) != "1 0 0" || code != api.OK {
		t.Errorf("%s, %d", listText(x), code)
	}
	if _, code := matrix.Solve(a, list("1 3")); code != api.ErrMissing {
		t.Errorf("code %d", code)
	}
	if y, code := matrix.Refute(a, list("1 3")); code != api.OK || !matrix.CheckRefute(a, list("1 3"), y) {
		t.Errorf("%s, %d", listText(y), code)
	}
}

// checkSolution fails the test if x is not the solution with zeros in the free columns.
func checkSolution(t *testing.T, a api.Matrix, b, x []api.Rat) {
	t.Helper()
	image, code := matrix.Apply(a, x)
	_, pivots, _ := matrix.Echelon(a)
	for j, v := range x {
		if !slices.Contains(pivots, j) && fraction.Sign(v) != 0 {
			t.Fatalf("%s is not 0 in column %d of %s", listText(x), j, text(a))
		}
	}
	if code != api.OK || !sameList(image, b) {
		t.Fatalf("Solve(%s, %s) = %s", text(a), listText(b), listText(x))
	}
}

// P5.6: what refutes, and what does not.
func TestCheckRefute(t *testing.T) {
	a, b := rows("1 2 3;2 4 6"), list("1 3")
	for _, c := range []struct {
		a    api.Matrix
		b, y []api.Rat
		ok   bool
	}{
		{a, b, list("-2 1"), true},
		{a, b, list("2 -1"), false},
		{a, b, list("-4 2"), false},
		{a, b, list("0 0"), false},
		{a, b, list("1 0"), false},
		{a, b, list("0 1/3"), false},
		{a, list("1 2"), list("-2 1"), false},
		{a, b, list("-2"), false},
		{a, b, list("-2 1 0"), false},
		{a, b, nil, false},
		{a, list("1"), list("-2 1"), false},
		{a, list("1 3 0"), list("-2 1"), false},
		{a, nil, nil, false},
		{nil, nil, nil, false},
		{rows("1 2 3;2 4"), b, list("-2 1"), false},
		{rows("0"), list("2"), list("1/2"), true},
		{rows("0"), list("0"), list("1"), false},
	} {
		if matrix.CheckRefute(c.a, c.b, c.y) != c.ok {
			t.Errorf("CheckRefute(%s, %s, %s) is %t", text(c.a), listText(c.b), listText(c.y), !c.ok)
		}
	}
	for _, x := range notCanonical() {
		// As 0 the value would fit.
		if matrix.CheckRefute(api.Matrix{{x}}, list("2"), list("1/2")) || matrix.CheckRefute(rows("0;0"), []api.Rat{x, rat("1")}, list("5 1")) || matrix.CheckRefute(rows("0;0"), list("0 1"), []api.Rat{x, rat("1")}) {
			t.Errorf("%v is accepted", x)
		}
	}
}

// P5.7: factors, which exist if no leading determinant is 0.
func TestFactor(t *testing.T) {
	factored, singular := 0, 0
	squares(30, 5, func(r *rand.Rand, a api.Matrix) {
		a = symmetric(r, len(a))
		l, d, code := matrix.Factor(a)
		if hasZeroMinor(a) {
			singular++
			if zero(t, "Factor", l, d); code != api.ErrSingular {
				t.Fatalf("Factor(%s): %d", text(a), code)
			}
			return
		}
		factored++
		checkFactor(t, a, l, d, code)
	})
	if factored < 100 || singular < 20 {
		t.Errorf("%d factored, %d singular", factored, singular)
	}
	for _, c := range []struct{ a, l, d string }{
		{"4 2;2 3", "1 0;1/2 1", "4 2"},
		{"1 2;2 1", "1 0;2 1", "1 -3"},
		{"-5", "1", "-5"},
		{"1/2 0;0 -1/3", "1 0;0 1", "1/2 -1/3"},
	} {
		if l, d, code := matrix.Factor(rows(c.a)); text(l) != c.l || listText(d) != c.d || code != api.OK {
			t.Errorf("Factor(%s) = %s, %s, %d", c.a, text(l), listText(d), code)
		}
	}
	for _, s := range []string{"0", "0 1;1 0", "1 1;1 1", "1 2 3;2 4 5;3 5 9", "1 1 1;1 2 3;1 3 5"} {
		l, d, code := matrix.Factor(rows(s))
		if zero(t, s, l, d); code != api.ErrSingular {
			t.Errorf("Factor(%s): %d", s, code)
		}
	}
}

// hasZeroMinor reports whether the determinant of some first rows and columns is 0.
func hasZeroMinor(a api.Matrix) bool {
	for k := range a {
		if refer(a).leading(k+1).determinant().Sign() == 0 {
			return true
		}
	}
	return false
}

// checkFactor fails the test if l D l^T is not a, or l has not its form.
func checkFactor(t *testing.T, a, l api.Matrix, d []api.Rat, code api.Code) {
	t.Helper()
	if code != api.OK || len(l) != len(a) || len(d) != len(a) {
		t.Fatalf("Factor(%s) = %s, %s, %d", text(a), text(l), listText(d), code)
	}
	scaled, x := refer(l), refer(l)
	for i, row := range x {
		for j := range row {
			scaled[i][j] = new(big.Rat).Mul(row[j], bigOf(d[j]))
			if i == j && row[j].Cmp(big.NewRat(1, 1)) != 0 || i < j && row[j].Sign() != 0 {
				t.Fatalf("Factor(%s): %s", text(a), text(l))
			}
		}
	}
	equal(t, "l D l^T", a, api.OK, scaled.times(x.transposed()))
}

// P5.8: a matrix is positive definite if all leading determinants are above 0; otherwise there is a witness.
func TestDefinite(t *testing.T) {
	definite, other := 0, 0
	squares(30, 5, func(r *rand.Rand, a api.Matrix) {
		a = symmetric(r, len(a))
		want := true
		for k := range a {
			want = want && refer(a).leading(k+1).determinant().Sign() > 0
		}
		got, witness, code := matrix.Definite(a)
		if got != want || code != api.OK {
			t.Fatalf("Definite(%s) = %t, %d", text(a), got, code)
		}
		if got {
			definite++
			zero(t, "Definite", witness)
			if matrix.CheckWitness(a, randomWitness(r, len(a))) {
				t.Fatalf("a witness against %s", text(a))
			}
			return
		}
		other++
		v := column(witness)
		value := v.transposed().times(refer(a)).times(v)[0][0]
		if zeros(witness) || len(witness) != len(a) || value.Sign() > 0 || !matrix.CheckWitness(a, witness) {
			t.Fatalf("Definite(%s): %s", text(a), listText(witness))
		}
	})
	if definite < 50 || other < 50 {
		t.Errorf("%d are definite, %d not", definite, other)
	}
	for _, c := range []struct {
		a    string
		want bool
	}{{"4 2;2 3", true}, {"1 2;2 1", false}, {"0", false}, {"-1/7", false}, {"1/7", true}, {"1 0;0 0", false}, {"1 1;1 1", false}, {"0 1;1 0", false}, {"0 0;0 5", false}, {"1 0 0;0 1 0;0 0 -1", false}, {"2 -1 0;-1 2 -1;0 -1 2", true}} {
		got, witness, code := matrix.Definite(rows(c.a))
		if got != c.want || code != api.OK || !got && !matrix.CheckWitness(rows(c.a), witness) {
			t.Errorf("Definite(%s) = %t, %s, %d", c.a, got, listText(witness), code)
		}
	}
}

// randomWitness returns a list that is not zero.
func randomWitness(r *rand.Rand, n int) []api.Rat {
	v := randomList(r, n, 1)
	v[r.Intn(n)] = fraction.Whole(1)
	return v
}

// P5.8: what is a witness, and what is not.
func TestCheckWitness(t *testing.T) {
	for _, c := range []struct {
		a  string
		v  string
		ok bool
	}{
		{"1 2;2 1", "1 -1", true},
		{"1 2;2 1", "-3/7 3/7", true},
		{"1 2;2 1", "1 0", false},
		{"1 2;2 1", "0 0", false},
		{"1 2;2 1", "1 -1 0", false},
		{"1 2;2 1", "1", false},
		{"1 2;2 1", "", false},
		{"1 1;1 1", "1 -1", true}, // the value 0
		{"1 1;1 1", "1 1", false},
		{"1 2;3 1", "1 -1", false}, // not symmetric
		{"-1 0 0;0 -1 0", "1 0", false},
		{"-1 0;0 -1;0 0", "1 0", false},
		{"0", "-5", true},
		{"1 2;2", "1 -1", false},
	} {
		if matrix.CheckWitness(rows(c.a), list(c.v)) != c.ok {
			t.Errorf("CheckWitness(%s, %s) is %t", c.a, c.v, !c.ok)
		}
	}
	for _, x := range notCanonical() {
		if matrix.CheckWitness(api.Matrix{{x}}, list("1")) || matrix.CheckWitness(rows("-1 0;0 -1"), []api.Rat{rat("1"), x}) {
			t.Errorf("%v is accepted", x)
		}
	}
	for _, a := range notMatrices() {
		if matrix.CheckWitness(a, list("1")) || matrix.CheckWitness(a, nil) {
			t.Errorf("%v is accepted", a)
		}
	}
}
