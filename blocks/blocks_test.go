package blocks_test

import (
	"fmt"
	"math/big"
	"math/rand"
	"slices"
	"testing"

	"fiducial/api"
	"fiducial/blocks"
	"fiducial/fraction"
	"fiducial/matrix"
)

// P6.1: the matrix and the graph of a system.
func TestDensePattern(t *testing.T) {
	some(300, 5, func(r *rand.Rand, s api.System) {
		if code := blocks.Check(s); code != api.OK {
			t.Fatalf("Check(%s): %d", systemText(s), code)
		}
		got, code := blocks.Dense(s)
		if want := wholeOf(s).n.matrix(); code != api.OK || text(got) != text(want) {
			t.Fatalf("Dense(%s) = %s, %d", systemText(s), text(got), code)
		}
		var edges [][2]int
		for i := range s.Sizes {
			for j := range s.Sizes {
				if i < j && slices.ContainsFunc(s.Blocks, func(b api.Block) bool { return b.Row == j && b.Col == i }) {
					edges = append(edges, [2]int{i, j})
				}
			}
		}
		g, code := blocks.Pattern(s)
		if code != api.OK || g.Nodes != len(s.Sizes) || !slices.Equal(g.Edges, edges) {
			t.Fatalf("Pattern(%s) = %v, %d", systemText(s), g, code)
		}
	})
	dense, _ := blocks.Dense(example())
	g, _ := blocks.Pattern(example())
	if text(dense) != "2 1 0;1 2 1;0 1 3" || fmt.Sprint(g) != "{3 [[0 1] [1 2]]}" {
		t.Errorf("the example: %s, %v", text(dense), g)
	}
}

// P6.1: a listed block of zeros makes an edge; a system without blocks is valid.
func TestZeroBlocks(t *testing.T) {
	s := api.System{Sizes: []int{1, 2}, Blocks: []api.Block{block(1, 0, "0;0")}, Right: list("1 2 3")}
	g, code := blocks.Pattern(s)
	if code != api.OK || fmt.Sprint(g) != "{2 [[0 1]]}" {
		t.Errorf("Pattern = %v, %d", g, code)
	}
	same, code := blocks.Eliminate(s, nil)
	if code != api.OK || systemText(same) != "[1 2] = 1 2 3" {
		t.Errorf("Eliminate = %s, %d", systemText(same), code)
	}
	s.Blocks = nil
	dense, code := blocks.Dense(s)
	if text(dense) != "0 0 0;0 0 0;0 0 0" || code != api.OK {
		t.Errorf("Dense = %s, %d", text(dense), code)
	}
	if g, code := blocks.Pattern(s); code != api.OK || g.Nodes != 2 || len(g.Edges) != 0 {
		t.Errorf("Pattern = %v, %d", g, code)
	}
}

// P6.2: Schur complements.
func TestEliminate(t *testing.T) {
	succeeded, failed := 0, 0
	some(900, 5, func(r *rand.Rand, s api.System) {
		rows := subset(r, len(s.Sizes))
		got, code := blocks.Eliminate(s, rows)
		if len(rows) == len(s.Sizes) {
			if code != api.ErrState {
				t.Fatalf("Eliminate(%s, %d): %d", systemText(s), rows, code)
			}
			return
		}
		want, ok := wholeOf(s).schur(rows)
		if !ok {
			failed++
			if code != api.ErrSingular {
				t.Fatalf("Eliminate(%s, %d): %d", systemText(s), rows, code)
			}
			return
		}
		succeeded++
		equal(t, fmt.Sprint("Eliminate ", rows), s, got, code, want.system(nil))
		if code := blocks.Check(got); code != api.OK {
			t.Fatalf("Check(%s): %d", systemText(got), code)
		}
	})
	if succeeded < 100 || failed < 50 {
		t.Errorf("%d complements, %d times none", succeeded, failed)
	}
	got, code := blocks.Eliminate(example(), []int{0})
	if s := systemText(got); code != api.OK || s != "[1 1] (0, 0) 3/2 (1, 0) 1 (1, 1) 3 = 5/2 4" {
		t.Errorf("the example: %s, %d", s, code)
	}
}

// P6.2: the part of several block rows may be regular though none of them can be eliminated alone.
func TestEliminateTogether(t *testing.T) {
	s := api.System{
		Sizes:  []int{1, 2, 1},
		Blocks: []api.Block{block(1, 0, "1;0"), block(2, 0, "1"), block(2, 1, "2 1")},
		Right:  list("1 2 3 4"),
	}
	for _, rows := range [][]int{{0}, {2}, {1}, {1, 0}} {
		if got, code := blocks.Eliminate(s, rows); code != api.ErrSingular || systemText(got) != "[] = " {
			t.Errorf("Eliminate %d: %s, %d", rows, systemText(got), code)
		}
	}
	for _, rows := range [][]int{{0, 2}, {2, 0}} {
		// The inverse of (0, 1; 1, 0) is the same; the rows of N_RE are (1, 2), (0, 1).
		got, code := blocks.Eliminate(s, rows)
		if s := systemText(got); code != api.OK || s != "[2] (0, 0) -4 -1;-1 0 = -4 2" {
			t.Errorf("Eliminate %d: %s, %d", rows, s, code)
		}
	}
}

// P6.2: a solution of the complement and Back solve the system.
func TestBack(t *testing.T) {
	solved := 0
	some(600, 5, func(r *rand.Rand, s api.System) {
		rows := subset(r, len(s.Sizes))
		w := wholeOf(s)
		e, rest := unitsOf(s.Sizes, rows), unitsOf(s.Sizes, without(len(s.Sizes), rows))
		x := made(len(rest), 1, func(i, j int) *big.Rat { return number(r, 1) })
		var values []api.Rat
		for _, row := range x {
			values = append(values, ofBig(row[0]))
		}
		got, code := blocks.Back(s, rows, values)
		if len(e) > 0 && w.n.part(e, e).inverse() == nil {
			if code != api.ErrSingular || len(got) > 0 {
				t.Fatalf("Back(%s, %d): %d", systemText(s), rows, code)
			}
			return
		}
		solved++
		if code != api.OK || len(got) != len(s.Right) {
			t.Fatalf("Back(%s, %d) = %s, %d", systemText(s), rows, listText(got), code)
		}
		for i, unit := range rest {
			if fraction.Compare(got[unit], values[i]) != 0 {
				t.Fatalf("Back(%s, %d, %s) = %s", systemText(s), rows, listText(values), listText(got))
			}
		}
		// The rows of the eliminated unknowns hold, whatever the values of the others are.
		image := w.n.times(made(len(got), 1, func(i, j int) *big.Rat { return bigOf(got[i]) }))
		for _, unit := range e {
			if image[unit][0].Cmp(w.right[unit][0]) != 0 {
				t.Fatalf("Back(%s, %d, %s) = %s", systemText(s), rows, listText(values), listText(got))
			}
		}
	})
	if solved < 100 {
		t.Errorf("only %d solutions", solved)
	}
	x, code := blocks.Back(example(), []int{0}, list("1 1"))
	if listText(x) != "1 1 1" || code != api.OK {
		t.Errorf("the example: %s, %d", listText(x), code)
	}
	if x, code := blocks.Back(example(), []int{2, 0, 1}, nil); listText(x) != "1 1 1" || code != api.OK {
		t.Errorf("all block rows: %s, %d", listText(x), code)
	}
	if x, code := blocks.Back(example(), nil, list("7 -1/2 0")); listText(x) != "7 -1/2 0" || code != api.OK {
		t.Errorf("no block rows: %s, %d", listText(x), code)
	}
}

// P6.2: the complement of a solvable system, its solution, and Back.
func TestWayBack(t *testing.T) {
	some(200, 5, func(r *rand.Rand, s api.System) {
		rows := subset(r, len(s.Sizes))
		complement, code := blocks.Eliminate(s, rows)
		if code != api.OK {
			return
		}
		inner, code := blocks.Back(complement, every(len(complement.Sizes)), nil)
		if code != api.OK {
			return
		}
		x, code := blocks.Back(s, rows, inner)
		dense, _ := blocks.Dense(s)
		if image, _ := matrix.Apply(dense, x); code != api.OK || listText(image) != listText(s.Right) {
			t.Fatalf("%s, %d: %s, %d", systemText(s), rows, listText(x), code)
		}
	})
}

// P6.3: one list after the other.
func TestEliminateTwice(t *testing.T) {
	compared := 0
	some(600, 6, func(r *rand.Rand, s api.System) {
		rows := subset(r, len(s.Sizes))
		cut := r.Intn(len(rows) + 1)
		first, second := rows[:cut], rows[cut:]
		once, code := blocks.Eliminate(s, first)
		if code != api.OK {
			return
		}
		// The numbers of the block rows that are left have changed.
		left := without(len(s.Sizes), first)
		renumbered := make([]int, len(second))
		for i, k := range second {
			renumbered[i] = slices.Index(left, k)
		}
		twice, code := blocks.Eliminate(once, renumbered)
		if code != api.OK {
			return
		}
		both, code := blocks.Eliminate(s, rows)
		if code == api.ErrState || code == api.ErrSingular {
			t.Fatalf("%s: %d and %d succeed alone: %d", systemText(s), first, second, code)
		}
		compared++
		equal(t, fmt.Sprint(first, second), s, twice, code, both)
	})
	if compared < 100 {
		t.Errorf("only %d compared", compared)
	}
}

// P6.4: the only solution, in every order, or ErrSingular.
func TestSolve(t *testing.T) {
	solved, singular := 0, 0
	some(60, 4, func(r *rand.Rand, s api.System) {
		w := wholeOf(s)
		inverse := w.n.inverse()
		var want string
		if inverse != nil {
			want = text(inverse.times(w.right).matrix())
		}
		for _, order := range permutations(len(s.Sizes)) {
			x, code := blocks.Solve(s, order)
			if !eachTurn(w, order) {
				singular++
				if code != api.ErrSingular || len(x) > 0 {
					t.Fatalf("Solve(%s, %d) = %s, %d", systemText(s), order, listText(x), code)
				}
				continue
			}
			solved++
			column := make([][]api.Rat, len(x))
			for i := range x {
				column[i] = x[i : i+1]
			}
			if code != api.OK || text(column) != want {
				t.Fatalf("Solve(%s, %d) = %s, %d, want %s", systemText(s), order, listText(x), code, want)
			}
		}
	})
	if solved < 150 || singular < 150 {
		t.Errorf("%d times solved, %d times singular", solved, singular)
	}
	for _, order := range permutations(3) {
		if x, code := blocks.Solve(example(), order); listText(x) != "1 1 1" || code != api.OK {
			t.Errorf("the example in the order %d: %s, %d", order, listText(x), code)
		}
	}
}

// eachTurn reports whether the diagonal block of every block row is regular at its turn: whether the parts of the first rows of the order are.
func eachTurn(w whole, order []int) bool {
	for k := range order {
		units := unitsOf(w.sizes, order[:k+1])
		if w.n.part(units, units).inverse() == nil {
			return false
		}
	}
	return true
}

// P6.4: a regular matrix whose diagonal blocks are singular.
func TestSolveSingular(t *testing.T) {
	s := api.System{Sizes: []int{1, 1}, Blocks: []api.Block{block(1, 0, "1")}, Right: list("2 3")}
	for _, order := range permutations(2) {
		if x, code := blocks.Solve(s, order); code != api.ErrSingular || len(x) > 0 {
			t.Errorf("order %d: %s, %d", order, listText(x), code)
		}
	}
	one := api.System{Sizes: []int{2}, Blocks: []api.Block{block(0, 0, "0 1;1 0")}, Right: list("2 3")}
	if x, code := blocks.Solve(one, []int{0}); listText(x) != "3 2" || code != api.OK {
		t.Errorf("one block: %s, %d", listText(x), code)
	}
	// The equations can be solved, but not by one solution alone.
	none := api.System{Sizes: []int{1, 1}, Blocks: []api.Block{block(0, 0, "1"), block(1, 0, "1"), block(1, 1, "1")}, Right: list("2 2")}
	if x, code := blocks.Solve(none, []int{0, 1}); code != api.ErrSingular || len(x) > 0 {
		t.Errorf("a singular matrix: %s, %d", listText(x), code)
	}
	if x, code := blocks.Back(none, []int{0, 1}, nil); code != api.ErrSingular || len(x) > 0 {
		t.Errorf("a singular matrix: %s, %d", listText(x), code)
	}
}

// P6.5: positive definite matrices.
func TestDefinite(t *testing.T) {
	r := rand.New(rand.NewSource(8))
	for range 60 {
		s := definite(r, 4)
		for _, order := range permutations(len(s.Sizes)) {
			if x, code := blocks.Solve(s, order); code != api.OK {
				t.Fatalf("Solve(%s, %d) = %s, %d", systemText(s), order, listText(x), code)
			}
			for k := range order {
				complement, code := blocks.Eliminate(s, order[:k])
				dense, other := blocks.Dense(complement)
				if is, _, third := matrix.Definite(dense); !is || code != api.OK || other != api.OK || third != api.OK {
					t.Fatalf("Eliminate(%s, %d) = %s, %d", systemText(s), order[:k], text(dense), code)
				}
			}
		}
	}
}

// P6.6: a pair is in the fill exactly if a way of nodes that are eliminated before both joins it, and no edge does.
func TestFill(t *testing.T) {
	found := 0
	some(300, 8, func(r *rand.Rand, s api.System) {
		order := r.Perm(len(s.Sizes))
		got, code := blocks.Fill(s, order)
		var want [][2]int
		for i := range order {
			for j := i + 1; j < len(order); j++ {
				if !edge(s, i, j) && joined(s, order, i, j) {
					want = append(want, [2]int{i, j})
				}
			}
		}
		found += len(want)
		if code != api.OK || !slices.Equal(got, want) {
			t.Fatalf("Fill(%s, %d) = %d, %d, want %d", systemText(s), order, got, code, want)
		}
	})
	if found < 100 {
		t.Errorf("only %d pairs", found)
	}
	for _, c := range []struct {
		order []int
		want  string
	}{{[]int{1, 0, 2}, "[[0 2]]"}, {[]int{0, 1, 2}, "[]"}, {[]int{2, 0, 1}, "[]"}} {
		if fill, code := blocks.Fill(example(), c.order); fmt.Sprint(fill) != c.want || code != api.OK {
			t.Errorf("the example in the order %d: %d, %d", c.order, fill, code)
		}
	}
}

// edge reports whether there is a block that joins two block rows.
func edge(s api.System, i, j int) bool {
	return slices.ContainsFunc(s.Blocks, func(b api.Block) bool { return b.Row == max(i, j) && b.Col == min(i, j) })
}

// joined reports whether a way from i to j leads over nodes that come before both in the order.
func joined(s api.System, order []int, i, j int) bool {
	first := min(slices.Index(order, i), slices.Index(order, j))
	reached := []int{i}
	for n := 0; n < len(reached); n++ {
		if edge(s, reached[n], j) {
			return true
		}
		for _, k := range order[:first] {
			if edge(s, reached[n], k) && !slices.Contains(reached, k) {
				reached = append(reached, k)
			}
		}
	}
	return false
}

// P6.6: blocks of a complement are blocks of the system, or fill.
func TestFillOfComplement(t *testing.T) {
	some(300, 6, func(r *rand.Rand, s api.System) {
		order := r.Perm(len(s.Sizes))
		rows := order[:r.Intn(len(order))]
		complement, code := blocks.Eliminate(s, rows)
		if code != api.OK {
			return
		}
		fill, _ := blocks.Fill(s, order)
		left := without(len(s.Sizes), rows)
		for _, b := range complement.Blocks {
			i, j := left[b.Col], left[b.Row]
			if i != j && !edge(s, i, j) && !slices.Contains(fill, [2]int{i, j}) {
				t.Fatalf("%s without %d has the block (%d, %d)", systemText(s), rows, j, i)
			}
		}
	})
}

// P6.7: orders by least degree.
func TestOrder(t *testing.T) {
	some(300, 9, func(r *rand.Rand, s api.System) {
		got, code := blocks.Order(s)
		if want := leastDegrees(s); code != api.OK || !slices.Equal(got, want) {
			t.Fatalf("Order(%s) = %d, %d, want %d", systemText(s), got, code, want)
		}
	})
	if order, code := blocks.Order(example()); !slices.Equal(order, []int{0, 1, 2}) || code != api.OK {
		t.Errorf("the example: %d, %d", order, code)
	}
	// A star: the centre is the last but one, where it is tied with the last ray.
	star := api.System{Sizes: []int{1, 1, 1, 1}, Blocks: []api.Block{block(1, 0, "1"), block(2, 0, "1"), block(3, 0, "1")}, Right: list("0 0 0 0")}
	if order, code := blocks.Order(star); !slices.Equal(order, []int{1, 2, 0, 3}) || code != api.OK {
		t.Errorf("a star: %d, %d", order, code)
	}
}

// leastDegrees is the order by least degree, with the neighbours in a table.
func leastDegrees(s api.System) []int {
	n := len(s.Sizes)
	near := make([][]bool, n)
	for i := range near {
		near[i] = make([]bool, n)
		for j := range near[i] {
			near[i][j] = i != j && edge(s, i, j)
		}
	}
	var order []int
	for len(order) < n {
		best, least := -1, n
		for k := range n {
			degree := 0
			for j := range n {
				if near[k][j] {
					degree++
				}
			}
			if !slices.Contains(order, k) && degree < least {
				best, least = k, degree
			}
		}
		for i := range n {
			for j := range n {
				near[i][j] = near[i][j] || i != j && near[i][best] && near[best][j]
			}
		}
		for i := range n {
			near[i][best], near[best][i] = false, false
		}
		order = append(order, best)
	}
	return order
}

// P6.2, P6.4, P6.7: the greatest systems that there are.
func TestLargest(t *testing.T) {
	r := rand.New(rand.NewSource(9))
	for _, sizes := range [][]int{slices.Repeat([]int{5}, 12), {12, 12, 12, 12, 12, 4}} {
		w := whole{sizes: sizes}
		n := len(unitsOf(sizes, every(len(sizes))))
		w.n = made(n, n, func(i, j int) *big.Rat { return new(big.Rat) })
		for i := range n {
			for j := range i + 1 {
				w.n[i][j] = big.NewRat(int64(r.Intn(19)-9), 1)
				w.n[j][i] = w.n[i][j]
			}
		}
		w.right = made(n, 1, func(i, j int) *big.Rat { return big.NewRat(int64(r.Intn(19)-9), 1) })
		s := w.system(nil)
		order, code := blocks.Order(s)
		if code != api.OK || !slices.Equal(order, every(len(sizes))) {
			t.Errorf("Order: %d, %d", order, code)
		}
		dense, _ := blocks.Dense(s)
		x, code := blocks.Solve(s, order)
		if image, _ := matrix.Apply(dense, x); code != api.OK || listText(image) != listText(s.Right) {
			t.Errorf("Solve: %d", code)
		}
		if y, code := blocks.Back(s, order, nil); code != api.OK || listText(x) != listText(y) {
			t.Errorf("Back: %d", code)
		}
		slices.Reverse(order)
		if y, code := blocks.Solve(s, order); code != api.OK || listText(x) != listText(y) {
			t.Errorf("Solve in reverse: %d", code)
		}
		complement, code := blocks.Eliminate(s, order[:len(order)-1])
		if y, other := blocks.Back(complement, []int{0}, nil); code != api.OK || other != api.OK || listText(y) != listText(x[:sizes[0]]) {
			t.Errorf("Eliminate: %d, %d", code, other)
		}
	}
}
