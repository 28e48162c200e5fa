package matrix

import (
	"slices"

	"fiducial/api"
	"fiducial/fraction"
)

// Echelon returns the reduced row echelon form of a, and its pivot columns.
func Echelon(a api.Matrix) (api.Matrix, []int, api.Code) {
	if Check(a) != api.OK {
		return nil, nil, api.ErrArgument
	}
	t, free := echelonOf(a)
	form := made(len(a), len(a[0]), func(i, j int) api.Rat { return fraction.Whole(0) })
	for r, row := range t.reduced(free) {
		form[r][t.pivots[r]] = fraction.Whole(1)
		for k, column := range free {
			form[r][column] = row[k]
		}
	}
	return form, t.pivots, api.OK
}

// echelonOf returns the echelon form of a, and its free columns.
func echelonOf(a api.Matrix) (t *table, free []int) {
	t = tableOf(a)
	t.forward(len(a[0]))
	for column := range a[0] {
		if !slices.Contains(t.pivots, column) {
			free = append(free, column)
		}
	}
	return t, free
}

// Rank returns the rank of a.
func Rank(a api.Matrix) (int, api.Code) {
	if Check(a) != api.OK {
		return 0, api.ErrArgument
	}
	t, _ := echelonOf(a)
	return len(t.pivots), api.OK
}

// Null returns a basis of the null space of a.
func Null(a api.Matrix) ([][]api.Rat, api.Code) {
	if Check(a) != api.OK {
		return nil, api.ErrArgument
	}
	t, free := echelonOf(a)
	rows := t.reduced(free)
	basis := make([][]api.Rat, len(free))
	for k, column := range free {
		basis[k] = unitList(len(a[0]), column)
		for r, row := range rows {
			basis[k][t.pivots[r]] = fraction.Neg(row[k])
		}
	}
	return basis, api.OK
}

// Determinant returns the determinant of a.
func Determinant(a api.Matrix) (api.Rat, api.Code) {
	if code := checkSquare(a); code != api.OK {
		return api.Rat{}, code
	}
	t := tableOf(a)
	t.forward(len(a))
	if len(t.pivots) < len(a) {
		return fraction.Whole(0), api.OK
	}
	product := fraction.Whole(1)
	if t.odd {
		product = fraction.Whole(-1)
	}
	for k := range a {
		product = fraction.Mul(product, t.pivot(k))
	}
	return product, api.OK
}

// checkSquare returns the code for a where a square matrix is asked for.
func checkSquare(a api.Matrix) api.Code {
	switch {
	case Check(a) != api.OK:
		return api.ErrArgument
	case len(a) != len(a[0]):
		return api.ErrMismatch
	}
	return api.OK
}

// Inverse returns the inverse of a.
func Inverse(a api.Matrix) (api.Matrix, api.Code) {
	if code := checkSquare(a); code != api.OK {
		return nil, code
	}
	n := len(a)
	right := make([]int, n)
	rows := make([][]api.Rat, n)
	for i := range n {
		right[i] = n + i
		rows[i] = slices.Concat(a[i], unitList(n, i))
	}
	t := tableOf(rows)
	t.forward(n)
	if len(t.pivots) < n {
		return nil, api.ErrSingular
	}
	return t.reduced(right), api.OK
}

// Solve returns the solution of a x = b with zeros in the free columns.
func Solve(a api.Matrix, b []api.Rat) ([]api.Rat, api.Code) {
	if code := checkEquations(a, b); code != api.OK {
		return nil, code
	}
	return solution(a, b)
}

// checkEquations returns the code for the equations a x = b.
func checkEquations(a api.Matrix, b []api.Rat) api.Code {
	switch {
	case Check(a) != api.OK || !canonical(b):
		return api.ErrArgument
	case len(b) != len(a):
		return api.ErrMismatch
	}
	return api.OK
}

// solution returns the solution that Solve describes; there may be any number of rows.
func solution(rows [][]api.Rat, b []api.Rat) ([]api.Rat, api.Code) {
	n := len(rows[0])
	extended := make([][]api.Rat, len(rows))
	for i, row := range rows {
		extended[i] = slices.Concat(row, b[i:i+1])
	}
	t := tableOf(extended)
	t.forward(n)
	for _, row := range t.rows[len(t.pivots):] {
		if len(row.Items[n].Groups) > 0 {
			return nil, api.ErrMissing
		}
	}
	x := unitList(n, -1)
	for r, row := range t.reduced([]int{n}) {
		x[t.pivots[r]] = row[0]
	}
	return x, api.OK
}

// Refute returns a list y with y a = 0 and y b = 1.
func Refute(a api.Matrix, b []api.Rat) ([]api.Rat, api.Code) {
	if code := checkEquations(a, b); code != api.OK {
		return nil, code
	}
	// It is the solution of other equations, with the transposed matrix.
	rows := append(columns(a), b)
	return solution(rows, unitList(len(rows), len(rows)-1))
}

// CheckRefute reports whether y proves that a x = b has no solution.
func CheckRefute(a api.Matrix, b, y []api.Rat) bool {
	if checkEquations(a, b) != api.OK || checkEquations(a, y) != api.OK {
		return false
	}
	n := len(a[0])
	want := unitList(n+1, n)
	for i, x := range products(append(columns(a), b), y) {
		if fraction.Compare(x, want[i]) != 0 {
			return false
		}
	}
	return true
}
