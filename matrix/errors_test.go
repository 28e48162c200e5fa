package matrix_test

import (
	"fmt"
	"math/rand"
	"slices"
	"testing"

	"fiducial/api"
	"fiducial/fraction"
	"fiducial/matrix"
)

// outcome is a code, and the other results of a call.
type outcome struct {
	code    api.Code
	results []any
}

// returned puts the results of a call together; the last one is the code.
func returned(results ...any) outcome {
	last := len(results) - 1
	return outcome{results[last].(api.Code), results[:last]}
}

// one are the functions with one matrix as argument.
func one() map[string]func(a api.Matrix) outcome {
	return map[string]func(a api.Matrix) outcome{
		"Transpose": func(a api.Matrix) outcome { return returned(matrix.Transpose(a)) },
		"Scale":     func(a api.Matrix) outcome { return returned(matrix.Scale(a, fraction.Whole(2))) },
		"Echelon":   func(a api.Matrix) outcome { return returned(matrix.Echelon(a)) },
		"Rank":      func(a api.Matrix) outcome { return returned(matrix.Rank(a)) },
		"Null":      func(a api.Matrix) outcome { return returned(matrix.Null(a)) },
	}
}

// square are the functions with one square matrix as argument.
func square() map[string]func(a api.Matrix) outcome {
	return map[string]func(a api.Matrix) outcome{
		"Determinant": func(a api.Matrix) outcome { return returned(matrix.Determinant(a)) },
		"Inverse":     func(a api.Matrix) outcome { return returned(matrix.Inverse(a)) },
		"Factor":      func(a api.Matrix) outcome { return returned(matrix.Factor(a)) },
		"Definite":    func(a api.Matrix) outcome { return returned(matrix.Definite(a)) },
	}
}

// two are the functions with two matrices as arguments.
func two() map[string]func(a, b api.Matrix) outcome {
	return map[string]func(a, b api.Matrix) outcome{
		"Add": func(a, b api.Matrix) outcome { return returned(matrix.Add(a, b)) },
		"Sub": func(a, b api.Matrix) outcome { return returned(matrix.Sub(a, b)) },
		"Mul": func(a, b api.Matrix) outcome { return returned(matrix.Mul(a, b)) },
	}
}

// withList are the functions with a matrix and a list as arguments.
func withList() map[string]func(a api.Matrix, b []api.Rat) outcome {
	return map[string]func(a api.Matrix, b []api.Rat) outcome{
		"Apply":  func(a api.Matrix, b []api.Rat) outcome { return returned(matrix.Apply(a, b)) },
		"Solve":  func(a api.Matrix, b []api.Rat) outcome { return returned(matrix.Solve(a, b)) },
		"Refute": func(a api.Matrix, b []api.Rat) outcome { return returned(matrix.Refute(a, b)) },
	}
}

// expect fails the test if the outcome has another code, or results together with an error.
func expect(t *testing.T, what string, o outcome, code api.Code) {
	t.Helper()
	if o.code != code {
		t.Errorf("%s: %d, want %d", what, o.code, code)
	}
	if o.code != api.OK {
		zero(t, what, o.results...)
	}
}

// P5.1 to P5.8: what is not canonical is an error before all others, in each argument.
func TestErrArgument(t *testing.T) {
	for _, bad := range notMatrices() {
		for name, f := range one() {
			expect(t, name, f(bad), api.ErrArgument)
		}
		for name, f := range square() {
			expect(t, name, f(bad), api.ErrArgument)
		}
		for name, f := range two() {
			expect(t, name, f(bad, bad), api.ErrArgument)
			expect(t, name, f(bad, rows("1 2;3 4")), api.ErrArgument)
			expect(t, name, f(rows("1 2;3 4"), bad), api.ErrArgument)
			expect(t, name, f(rows("1 2 3;3 4 5"), bad), api.ErrArgument)
		}
		for name, f := range withList() {
			expect(t, name, f(bad, nil), api.ErrArgument)
			expect(t, name, f(bad, list("1 2")), api.ErrArgument)
		}
	}
	for _, x := range notCanonical() {
		expect(t, "Scale", returned(matrix.Scale(rows("1 2;3 4"), x)), api.ErrArgument)
		for name, f := range withList() {
			expect(t, name, f(rows("1 2;3 4"), []api.Rat{x, rat("1")}), api.ErrArgument)
			expect(t, name, f(rows("1 2;3 4"), []api.Rat{rat("1"), x}), api.ErrArgument)
			// The length does not fit either.
			expect(t, name, f(rows("1 2;3 4"), []api.Rat{x}), api.ErrArgument)
			expect(t, name, f(rows("1 2;3 4"), []api.Rat{rat("1"), rat("1"), x}), api.ErrArgument)
		}
		// The matrix is not square or symmetric either.
		for name, f := range square() {
			expect(t, name, f(api.Matrix{{x, rat("1")}}), api.ErrArgument)
			expect(t, name, f(api.Matrix{{rat("1"), rat("1")}, {x, rat("1")}}), api.ErrArgument)
		}
	}
}

// P5.1 to P5.8: sizes that do not fit, and matrices that are not symmetric.
func TestErrMismatch(t *testing.T) {
	wide, tall := rows("1 2 3;4 5 6"), rows("1 2;3 4;5 6")
	for name, f := range square() {
		expect(t, name, f(wide), api.ErrMismatch)
		expect(t, name, f(tall), api.ErrMismatch)
		expect(t, name, f(rows("0 0")), api.ErrMismatch)
	}
	for name, f := range two() {
		code := api.ErrMismatch
		if name == "Mul" {
			code = api.OK
		}
		expect(t, name, f(wide, tall), code)
		expect(t, name, f(rows("1"), rows("1 2")), code)
		expect(t, name, f(rows("1 2"), rows("1")), api.ErrMismatch)
		expect(t, name, f(rows("1 2;3 4"), rows("1 2")), api.ErrMismatch)
	}
	for _, b := range []string{"", "1", "1 2 3 4"} {
		for name, f := range withList() {
			expect(t, name, f(wide, list(b)), api.ErrMismatch)
		}
	}
	expect(t, "Apply", returned(matrix.Apply(wide, list("1 2"))), api.ErrMismatch)
	expect(t, "Apply", returned(matrix.Apply(wide, list("1 2 3"))), api.OK)
	expect(t, "Solve", returned(matrix.Solve(wide, list("1 2 3"))), api.ErrMismatch)
	expect(t, "Solve", returned(matrix.Solve(wide, list("1 2"))), api.OK)
	expect(t, "Refute", returned(matrix.Refute(wide, list("1 2 3"))), api.ErrMismatch)
	expect(t, "Refute", returned(matrix.Refute(wide, list("1 2"))), api.ErrMissing)
	// Not symmetric, and singular.
	for _, s := range []string{"0 1;2 0", "0 0 0;0 0 1;0 0 0", "1 2;-2 1"} {
		expect(t, "Factor", returned(matrix.Factor(rows(s))), api.ErrState)
		expect(t, "Definite", returned(matrix.Definite(rows(s))), api.ErrState)
	}
}

// P5.4 to P5.8: matrices of the greatest size.
func TestGreatestSize(t *testing.T) {
	r := rand.New(rand.NewSource(7))
	n := api.MaxDim
	a := make(api.Matrix, n)
	for i := range a {
		a[i] = randomList(r, n, 0)
	}
	unit, _ := matrix.Identity(n)
	inverse, code := matrix.Inverse(a)
	if product, _ := matrix.Mul(a, inverse); code != api.OK || !same(product, unit) {
		t.Fatalf("Inverse: %d", code)
	}
	d, _ := matrix.Determinant(a)
	e, _ := matrix.Determinant(inverse)
	if !sameRat(fraction.Mul(d, e), rat("1")) {
		t.Error("Determinant")
	}
	b := randomList(r, n, 1)
	x, code := matrix.Solve(a, b)
	if want, _ := matrix.Apply(inverse, b); code != api.OK || !sameList(x, want) {
		t.Errorf("Solve: %d", code)
	}
	transposed, _ := matrix.Transpose(a)
	s, _ := matrix.Mul(a, transposed)
	if definite, _, code := matrix.Definite(s); !definite || code != api.OK {
		t.Errorf("Definite: %t, %d", definite, code)
	}
	l, pivots, code := matrix.Factor(s)
	checkFactor(t, s, l, pivots, code)
	// A row less, and a row that is the sum of all others.
	for j := range n {
		a[n-1][j] = fraction.Whole(0)
		for i := range n - 1 {
			a[n-1][j] = fraction.Add(a[n-1][j], a[i][j])
		}
	}
	rank, _ := matrix.Rank(a)
	null, _ := matrix.Null(a)
	y, code := matrix.Refute(a, b)
	if rank != n-1 || len(null) != 1 || code != api.OK || !matrix.CheckRefute(a, b, y) {
		t.Errorf("rank %d, %d lists, %d", rank, len(null), code)
	}
}

// The arguments stay as they are, and results are new memory, which they do not share with one another.
func TestNothingIsShared(t *testing.T) {
	some(4, 3, func(r *rand.Rand, a api.Matrix) {
		if r.Intn(2) == 0 {
			a = symmetric(r, len(a))
		}
		b, x, k := random(r, len(a), len(a[0])), randomList(r, len(a[0]), 2), number(r, 2)
		before := fmt.Sprint(a, b, x, k)
		for i, call := range calls(a, b, x, k) {
			parts := call()
			for n := range parts {
				others := slices.Concat(parts[:n], parts[n+1:])
				saved := fmt.Sprint(others)
				spoil(parts[n])
				if fmt.Sprint(others) != saved {
					t.Fatalf("parts of result %d for %s share memory", i, before)
				}
			}
			if fmt.Sprint(a, b, x, k) != before {
				t.Fatalf("call %d changes %s", i, before)
			}
		}
	})
}

// calls are the functions with lists in their results, which return these as numbers.
func calls(a, b api.Matrix, x []api.Rat, k api.Rat) []func() []api.Rat {
	all := func(l [][]api.Rat) []api.Rat { return slices.Concat(l...) }
	return []func() []api.Rat{
		func() []api.Rat { m, _ := matrix.Add(a, b); return all(m) },
		func() []api.Rat { m, _ := matrix.Sub(a, b); return all(m) },
		func() []api.Rat { m, _ := matrix.Scale(a, k); return all(m) },
		func() []api.Rat { m, _ := matrix.Mul(a, b); return all(m) },
		func() []api.Rat { m, _ := matrix.Transpose(a); return all(m) },
		func() []api.Rat { m, _ := matrix.Identity(3); return all(m) },
		func() []api.Rat { m, _ := matrix.Of([][]int{{0, 1}, {1, 0}}); return all(m) },
		func() []api.Rat { l, _ := matrix.Apply(a, x); return l },
		func() []api.Rat { m, _, _ := matrix.Echelon(a); return all(m) },
		func() []api.Rat { m, _ := matrix.Null(a); return all(m) },
		func() []api.Rat { d, _ := matrix.Determinant(a); return []api.Rat{d} },
		func() []api.Rat { m, _ := matrix.Inverse(a); return all(m) },
		func() []api.Rat { l, _ := matrix.Solve(a, x); return l },
		func() []api.Rat { l, _ := matrix.Refute(a, x); return l },
		func() []api.Rat { l, d, _ := matrix.Factor(a); return append(all(l), d...) },
		func() []api.Rat { _, v, _ := matrix.Definite(a); return v },
	}
}

// spoil overwrites the memory of a number.
func spoil(x api.Rat) {
	for _, groups := range [][]uint32{x.Num.Groups, x.Den.Groups} {
		for i := range groups {
			groups[i] = 987654321
		}
		_ = append(groups, 987654321)
	}
}
