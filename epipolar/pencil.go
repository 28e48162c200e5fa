package epipolar

import (
	"fiducial/api"
	"fiducial/fraction"
	"fiducial/matrix"
	"fiducial/polynomial"
)

// Eight returns the fundamental matrix of eight or more pairs.
func Eight(l []api.Pair) (api.Matrix, api.Code) {
	if len(l) < 8 || len(l) > api.MaxPairs {
		return nil, api.ErrLimit
	}
	if code := checkPairs(l); code != api.OK {
		return nil, code
	}
	basis := solutions(l)
	switch len(basis) {
	case 0:
		return nil, api.ErrMissing
	case 1:
		return basis[0].canonical().matrix(), api.OK
	}
	return nil, api.ErrDegenerate
}

// Seven returns all singular matrices that satisfy seven pairs, as members of a pencil.
func Seven(l []api.Pair) ([]api.Pencil, api.Code) {
	if len(l) != 7 {
		return nil, api.ErrLimit
	}
	if code := checkPairs(l); code != api.OK {
		return nil, code
	}
	basis := solutions(l)
	if len(basis) > 2 {
		return nil, api.ErrDegenerate
	}
	a, b := basis[0], basis[1]
	d := determinant(a, b)
	roots, code := polynomial.Isolate(d)
	if code != api.OK {
		return nil, api.ErrDegenerate
	}
	var members []api.Pencil
	for _, root := range roots {
		members = append(members, pencil(a, b, root))
	}
	if polynomial.Degree(d) < 3 {
		// The determinant of a is 0: a itself is s a + b for no s.
		members = append(members, pencil(square{}.scaled(fraction.Whole(0)), a, api.Root{Low: fraction.Whole(0), High: fraction.Whole(0)}))
	}
	return members, api.OK
}

// pencil returns a member of a pencil, with matrices in new memory.
func pencil(a, b square, root api.Root) api.Pencil {
	one := fraction.Whole(1)
	return api.Pencil{A: a.scaled(one).matrix(), B: b.scaled(one).matrix(), Root: root}
}

// solutions returns the canonical basis of the matrices that satisfy the equations of all pairs.
func solutions(l []api.Pair) []square {
	rows := make(api.Matrix, len(l))
	for i, p := range l {
		a, b := p.From, p.To
		rows[i] = row(b.X*a.X, b.X*a.Y, b.X, b.Y*a.X, b.Y*a.Y, b.Y, a.X, a.Y, 1)
	}
	null, _ := matrix.Null(rows)
	basis := make([]square, len(null))
	for i, entries := range null {
		basis[i] = ofRow(entries)
	}
	return basis
}

// row returns a row with integers.
func row(l ...int) []api.Rat {
	list := make([]api.Rat, len(l))
	for i, x := range l {
		list[i] = fraction.Whole(x)
	}
	return list
}

// determinant returns the polynomial det(s a + b) in s.
func determinant(a, b square) api.Poly {
	entry := func(i, j int) api.Poly { return polynomial.Clean([]api.Rat{b[i][j%3], a[i][j%3]}) }
	product := func(i, j int) api.Poly { return polynomial.Mul(entry(1, i), entry(2, j)) }
	var sum api.Poly
	for j := range 3 {
		minor := polynomial.Sub(product(j+1, j+2), product(j+2, j+1))
		sum = polynomial.Add(sum, polynomial.Mul(entry(0, j), minor))
	}
	return sum
}
