package blocks

import (
	"slices"

	"fiducial/api"
	"fiducial/fraction"
	"fiducial/matrix"
)

// table is a system with some block rows eliminated. The right side is one more block row, of one row, below all others: elimination treats it like these.
type table struct {
	sizes  []int                 // of all block rows of the system, and of the right side
	rows   []int                 // the block rows that are left, in ascending order, without the right side
	blocks map[[2]int]api.Matrix // by row and column; those above the diagonal are left out
}

// tableOf returns the table of a valid system. The blocks share memory with it; they are never changed.
func tableOf(s api.System) table {
	t := table{sizes: append(slices.Clone(s.Sizes), 1), blocks: map[[2]int]api.Matrix{}}
	for _, b := range s.Blocks {
		t.blocks[keyOf(b)] = b.At
	}
	next := 0
	for k, size := range s.Sizes {
		t.rows = append(t.rows, k)
		t.blocks[[2]int{t.right(), k}] = api.Matrix{s.Right[next : next+size]}
		next += size
	}
	return t
}

// right returns the block row of the right side.
func (t table) right() int {
	return len(t.sizes) - 1
}

// unknowns returns the number of unknowns of a list of block rows.
func (t table) unknowns(list []int) int {
	n := 0
	for _, k := range list {
		n += t.sizes[k]
	}
	return n
}

// others returns the block rows that are not in a list.
func (t table) others(list []int) []int {
	var rest []int
	for _, k := range t.rows {
		if !slices.Contains(list, k) {
			rest = append(rest, k)
		}
	}
	return rest
}

// has reports whether there is a block (i, j), also above the diagonal.
func (t table) has(i, j int) bool {
	_, ok := t.blocks[[2]int{max(i, j), min(i, j)}]
	return ok
}

// block returns the block (i, j), also above the diagonal; without one it returns zeros.
func (t table) block(i, j int) api.Matrix {
	a := t.blocks[[2]int{max(i, j), min(i, j)}]
	switch {
	case a == nil:
		return zeros(t.sizes[i], t.sizes[j])
	case i < j:
		a, _ = matrix.Transpose(a)
	}
	return a
}

// dense returns the matrix with some block rows and block columns. Its elements may share memory with one another.
func (t table) dense(rows, columns []int) api.Matrix {
	a := make(api.Matrix, 0, t.unknowns(rows))
	for _, i := range rows {
		strip := make(api.Matrix, t.sizes[i])
		for _, j := range columns {
			for k, row := range t.block(i, j) {
				strip[k] = append(strip[k], row...)
			}
		}
		a = append(a, strip...)
	}
	return a
}

// regular reports whether the matrix of the block rows and block columns of a list is regular.
func (t table) regular(list []int) bool {
	if len(list) == 0 {
		return true
	}
	rank, _ := matrix.Rank(t.dense(list, list))
	return rank == t.unknowns(list)
}

// without returns the table without the block rows of a list, or ErrSingular.
func (t table) without(list []int) (table, api.Code) {
	rest := t.others(list)
	near := slices.DeleteFunc(t.others(list), func(i int) bool { return !t.touches(i, list) })
	quotients, code := t.quotients(list, near)
	if code != api.OK {
		return table{}, code
	}
	next := table{sizes: t.sizes, rows: rest, blocks: map[[2]int]api.Matrix{}}
	for key, a := range t.blocks {
		if !slices.Contains(list, key[0]) && !slices.Contains(list, key[1]) {
			next.blocks[key] = a
		}
	}
	below := append(near, t.right())
	for n, j := range near {
		for _, i := range below[n:] {
			next.blocks[[2]int{i, j}] = t.reduced(i, j, list, quotients)
		}
	}
	return next, api.OK
}

// touches reports whether the block row i has a block in a column of a list.
func (t table) touches(i int, list []int) bool {
	return slices.ContainsFunc(list, func(e int) bool { return t.has(i, e) })
}

// quotients returns the product of the inverse of the matrix of a list of block rows and their blocks in some other columns, by row and column.
func (t table) quotients(list, columns []int) (map[[2]int]api.Matrix, api.Code) {
	if len(list) == 0 {
		return nil, api.OK
	}
	form, pivots, _ := matrix.Echelon(t.dense(list, slices.Concat(list, columns)))
	n := t.unknowns(list)
	if len(pivots) < n || pivots[n-1] != n-1 {
		return nil, api.ErrSingular
	}
	parts := map[[2]int]api.Matrix{}
	top := 0
	for _, e := range list {
		left := n
		for _, j := range columns {
			parts[[2]int{e, j}] = part(form, top, left, t.sizes[e], t.sizes[j])
			left += t.sizes[j]
		}
		top += t.sizes[e]
	}
	return parts, api.OK
}

// part returns a part of a matrix that begins at an element and has so many rows and columns.
func part(a api.Matrix, top, left, rows, columns int) api.Matrix {
	b := make(api.Matrix, rows)
	for k := range b {
		b[k] = a[top+k][left : left+columns]
	}
	return b
}

// reduced returns the block (i, j) of the Schur complement without the block rows of a list.
func (t table) reduced(i, j int, list []int, quotients map[[2]int]api.Matrix) api.Matrix {
	var products [][2]api.Matrix
	for _, e := range list {
		if t.has(i, e) {
			products = append(products, [2]api.Matrix{t.block(i, e), quotients[[2]int{e, j}]})
		}
	}
	return less(t.block(i, j), products...)
}

// spread stores the values of the unknowns of some block rows, row by row.
func (t table) spread(values [][]api.Rat, rows []int, x []api.Rat) {
	for _, k := range rows {
		values[k], x = x[:t.sizes[k]], x[t.sizes[k]:]
	}
}

// solve stores the values of the unknowns of a list of block rows, whose matrix is regular; those of all others are there.
func (t table) solve(values [][]api.Rat, list []int) {
	if len(list) == 0 {
		return
	}
	b := t.dense([]int{t.right()}, list)[0]
	if rest := t.others(list); len(rest) > 0 {
		var known []api.Rat
		for _, k := range rest {
			known = append(known, values[k]...)
		}
		shares, _ := matrix.Apply(t.dense(list, rest), known)
		for i := range b {
			b[i] = fraction.Sub(b[i], shares[i])
		}
	}
	x, _ := matrix.Solve(t.dense(list, list), b)
	t.spread(values, list, x)
}

// system returns the system that is left, with exactly the blocks that are not zero.
func (t table) system() api.System {
	var s api.System
	for i, row := range t.rows {
		s.Sizes = append(s.Sizes, t.sizes[row])
		for j, column := range t.rows[:i+1] {
			if a := t.blocks[[2]int{row, column}]; !isZero(a) {
				s.Blocks = append(s.Blocks, api.Block{Row: i, Col: j, At: copied(a)})
			}
		}
	}
	s.Right = copiedList(t.dense([]int{t.right()}, t.rows)[0])
	return s
}
