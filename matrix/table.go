package matrix

import (
	"slices"

	"fiducial/api"
	"fiducial/whole"
)

// table is a matrix that is brought into echelon form. Its rows are integers with a factor, so that no step has fractions; they keep no common divisor, so that the integers stay as short as they can be.
type table struct {
	rows   []whole.List
	pivots []int // the columns of the pivots of the first rows
	odd    bool  // whether the number of exchanges of rows is odd
}

// tableOf returns the table of a matrix.
func tableOf(rows [][]api.Rat) *table {
	return &table{rows: lists(rows)}
}

// forward brings the first columns into echelon form, with zeros below the pivots.
func (t *table) forward(columns int) {
	for column := range columns {
		if i := t.lightest(column); i >= 0 {
			t.exchange(i)
			t.step(column)
		}
	}
}

// diagonal takes steps with the pivots on the diagonal, as long as they are accepted.
func (t *table) diagonal(accept func(pivot api.Int) bool) {
	for k := range t.rows {
		if !accept(t.rows[k].Items[k]) {
			return
		}
		t.step(k)
	}
}

// lightest returns the row without a pivot whose numbers are the shortest together, among those with an element in the column other than 0; -1 if there is none.
func (t *table) lightest(column int) int {
	best, least := -1, 0
	for i := len(t.pivots); i < len(t.rows); i++ {
		items := t.rows[i].Items
		if len(items[column].Groups) == 0 {
			continue
		}
		weight := 0
		for _, x := range items {
			weight += len(x.Groups)
		}
		if best < 0 || weight < least {
			best, least = i, weight
		}
	}
	return best
}

// exchange exchanges the row i and the first row without a pivot.
func (t *table) exchange(i int) {
	if k := len(t.pivots); i != k {
		t.rows[i], t.rows[k] = t.rows[k], t.rows[i]
		t.odd = !t.odd
	}
}

// step makes the first row without a pivot one with a pivot in the column: it clears the column below.
func (t *table) step(column int) {
	k := len(t.pivots)
	for i := k + 1; i < len(t.rows); i++ {
		if len(t.rows[i].Items[column].Groups) > 0 {
			t.rows[i] = whole.Eliminate(t.rows[i], t.rows[k], column)
		}
	}
	t.pivots = append(t.pivots, column)
}

// pivot returns the pivot of the row k, with its factor.
func (t *table) pivot(k int) api.Rat {
	return t.rows[k].At(t.pivots[k])
}

// reduced returns the elements of the reduced row echelon form in some columns without a pivot, row by row.
func (t *table) reduced(columns []int) [][]api.Rat {
	result := make([][]api.Rat, len(t.pivots))
	solved := make([]whole.List, len(t.pivots))
	for r, pivot := range slices.Backward(t.pivots) {
		items := t.rows[r].Items
		multiples := picked(items, t.pivots[r+1:])
		solved[r] = whole.Substitute(picked(items, columns), multiples, solved[r+1:], items[pivot])
		result[r] = solved[r].Rats()
	}
	return result
}

// picked returns the elements of a row in some columns.
func picked(items []api.Int, columns []int) []api.Int {
	list := make([]api.Int, len(columns))
	for i, column := range columns {
		list[i] = items[column]
	}
	return list
}
