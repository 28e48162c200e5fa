package matrix

import (
	"fiducial/api"
	"fiducial/fraction"
	"fiducial/whole"
)

// checkSymmetric returns the code for a where a symmetric matrix is asked for.
func checkSymmetric(a api.Matrix) api.Code {
	if code := checkSquare(a); code != api.OK {
		return code
	}
	for i, row := range a {
		for j := range i {
			if fraction.Compare(row[j], a[j][i]) != 0 {
				return api.ErrState
			}
		}
	}
	return api.OK
}

// Factor returns a unit lower triangular matrix l and a list d with a = l D l^T, where D is the diagonal matrix of d.
func Factor(a api.Matrix) (l api.Matrix, d []api.Rat, code api.Code) {
	if code := checkSymmetric(a); code != api.OK {
		return nil, nil, code
	}
	n := len(a)
	t := tableOf(a)
	t.diagonal(func(pivot api.Int) bool { return len(pivot.Groups) > 0 })
	if len(t.pivots) < n {
		return nil, nil, api.ErrSingular
	}
	l = made(n, n, unit)
	d = make([]api.Rat, n)
	for k, row := range t.rows {
		d[k] = t.pivot(k)
		// The row is that of D l^T, but for a factor.
		for i, x := range whole.Over(row.Items[k:], row.Items[k]).Rats() {
			l[k+i][k] = x
		}
	}
	return l, d, api.OK
}

// Definite reports whether a is positive definite; otherwise it returns a witness.
func Definite(a api.Matrix) (bool, []api.Rat, api.Code) {
	if code := checkSymmetric(a); code != api.OK {
		return false, nil, code
	}
	t := tableOf(a)
	t.diagonal(func(pivot api.Int) bool { return len(pivot.Groups) > 0 && !pivot.Negative })
	k := len(t.pivots)
	if k == len(a) {
		return true, nil, api.OK
	}
	// The list that a takes to zeros before the index k, with 1 there and zeros behind it: its value is the pivot that was not accepted.
	witness := unitList(len(a), k)
	for i, row := range t.reduced([]int{k}) {
		witness[i] = fraction.Neg(row[0])
	}
	return false, witness, api.OK
}

// CheckWitness reports whether v proves that a is not positive definite.
func CheckWitness(a api.Matrix, v []api.Rat) bool {
	if checkSymmetric(a) != api.OK || checkEquations(a, v) != api.OK {
		return false
	}
	zero := true
	for _, x := range v {
		zero = zero && fraction.Sign(x) == 0
	}
	value := whole.Dot(whole.Of(v), whole.Of(products(a, v)))
	return !zero && fraction.Sign(value) <= 0
}
