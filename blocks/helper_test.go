package blocks_test

import (
	"fmt"
	"math/big"
	"math/rand"
	"slices"
	"strings"
	"testing"

	"fiducial/api"
	"fiducial/fraction"
	"fiducial/integer"
)

// list is the list of the fractions with some texts, separated by spaces.
func list(s string) []api.Rat {
	var l []api.Rat
	for _, x := range strings.Fields(s) {
		z, ok := new(big.Rat).SetString(x)
		if !ok {
			panic(x + " is no fraction")
		}
		l = append(l, ofBig(z))
	}
	return l
}

// rows is the matrix with the texts of its rows, separated by semicolons.
func rows(s string) api.Matrix {
	var a api.Matrix
	for row := range strings.SplitSeq(s, ";") {
		a = append(a, list(row))
	}
	return a
}

// block is the block with a place and the texts of its rows.
func block(row, col int, at string) api.Block {
	return api.Block{Row: row, Col: col, At: rows(at)}
}

// example is the system of the first example of the chapter.
func example() api.System {
	return api.System{
		Sizes:  []int{1, 1, 1},
		Blocks: []api.Block{block(0, 0, "2"), block(1, 0, "1"), block(1, 1, "2"), block(2, 1, "1"), block(2, 2, "3")},
		Right:  list("3 4 4"),
	}
}

// bigOf is the value of x, which is canonical.
func bigOf(x api.Rat) *big.Rat {
	num, _ := new(big.Int).SetString(integer.Text(x.Num), 10)
	den, _ := new(big.Int).SetString(integer.Text(x.Den), 10)
	return new(big.Rat).SetFrac(num, den)
}

// ofBig is the canonical fraction with the value of z.
func ofBig(z *big.Rat) api.Rat {
	return api.Rat{Num: ofInt(z.Num()), Den: ofInt(z.Denom())}
}

// ofInt is the canonical integer with the value of z.
func ofInt(z *big.Int) api.Int {
	x := api.Int{Negative: z.Sign() < 0}
	rest, group, billion := new(big.Int).Abs(z), new(big.Int), big.NewInt(1_000_000_000)
	for rest.Sign() > 0 {
		rest.QuoRem(rest, billion, group)
		x.Groups = append(x.Groups, uint32(group.Int64()))
	}
	return x
}

// listText has the texts of the elements of a list; what is not canonical is marked.
func listText(l []api.Rat) string {
	var s []string
	for _, x := range l {
		if !fraction.Valid(x) {
			s = append(s, "?")
			continue
		}
		s = append(s, fraction.Text(x))
	}
	return strings.Join(s, " ")
}

// text has the texts of the rows of a matrix.
func text(a [][]api.Rat) string {
	var s []string
	for _, row := range a {
		s = append(s, listText(row))
	}
	return strings.Join(s, ";")
}

// systemText has all that a system consists of.
func systemText(s api.System) string {
	all := fmt.Sprint(s.Sizes)
	for _, b := range s.Blocks {
		all += fmt.Sprintf(" (%d, %d) %s", b.Row, b.Col, text(b.At))
	}
	return all + " = " + listText(s.Right)
}

// notCanonical are values that are no fractions.
func notCanonical() []api.Rat {
	return []api.Rat{
		{},
		{Num: integer.Of(1)},
		{Num: integer.Of(2), Den: integer.Of(6)},
		{Num: integer.Of(1), Den: integer.Of(-1)},
		{Num: api.Int{Groups: []uint32{5, 0}}, Den: integer.Of(1)},
		{Num: api.Int{Groups: []uint32{1_000_000_000}}, Den: integer.Of(1)},
		{Num: api.Int{Negative: true}, Den: integer.Of(1)},
	}
}

// reference is a matrix of the numbers of math/big.
type reference [][]*big.Rat

// made returns the reference with some elements.
func made(m, n int, element func(i, j int) *big.Rat) reference {
	r := make(reference, m)
	for i := range r {
		for j := range n {
			r[i] = append(r[i], element(i, j))
		}
	}
	return r
}

func (a reference) times(b reference) reference {
	return made(len(a), len(b[0]), func(i, j int) *big.Rat {
		sum := new(big.Rat)
		for k := range b {
			sum.Add(sum, new(big.Rat).Mul(a[i][k], b[k][j]))
		}
		return sum
	})
}

func (a reference) minus(b reference) reference {
	return made(len(a), len(a[0]), func(i, j int) *big.Rat { return new(big.Rat).Sub(a[i][j], b[i][j]) })
}

// part has some rows and columns.
func (a reference) part(rows, columns []int) reference {
	return made(len(rows), len(columns), func(i, j int) *big.Rat { return a[rows[i]][columns[j]] })
}

// inverse returns the inverse of a square matrix, nil if there is none.
func (a reference) inverse() reference {
	n := len(a)
	r := made(n, 2*n, func(i, j int) *big.Rat {
		if j < n {
			return new(big.Rat).Set(a[i][j])
		}
		return big.NewRat(int64(max(0, 1-abs(j-n-i))), 1)
	})
	for j := range n {
		i := j
		for i < n && r[i][j].Sign() == 0 {
			i++
		}
		if i == n {
			return nil
		}
		r[i], r[j] = r[j], r[i]
		pivot := new(big.Rat).Inv(r[j][j])
		for k := range r[j] {
			r[j][k].Mul(r[j][k], pivot)
		}
		for i := range r {
			if x := new(big.Rat).Set(r[i][j]); i != j {
				for k := range r[i] {
					r[i][k].Sub(r[i][k], new(big.Rat).Mul(x, r[j][k]))
				}
			}
		}
	}
	return made(n, n, func(i, j int) *big.Rat { return r[i][n+j] })
}

// matrix returns the same as fractions.
func (a reference) matrix() api.Matrix {
	m := make(api.Matrix, len(a))
	for i, row := range a {
		for _, x := range row {
			m[i] = append(m[i], ofBig(x))
		}
	}
	return m
}

func abs(n int) int {
	return max(n, -n)
}

// whole is a system as one matrix and a right side of one column.
type whole struct {
	sizes    []int
	n, right reference
}

// wholeOf makes the matrix of a system from its blocks.
func wholeOf(s api.System) whole {
	units := unitsOf(s.Sizes, every(len(s.Sizes)))
	w := whole{s.Sizes, made(len(units), len(units), func(i, j int) *big.Rat { return new(big.Rat) }), nil}
	for _, b := range s.Blocks {
		for i, row := range unitsOf(s.Sizes, []int{b.Row}) {
			for j, column := range unitsOf(s.Sizes, []int{b.Col}) {
				w.n[row][column] = bigOf(b.At[i][j])
				w.n[column][row] = bigOf(b.At[i][j])
			}
		}
	}
	w.right = made(len(units), 1, func(i, j int) *big.Rat { return bigOf(s.Right[i]) })
	return w
}

// every has the numbers below n.
func every(n int) []int {
	var l []int
	for k := range n {
		l = append(l, k)
	}
	return l
}

// unitsOf are the unknowns of a list of block rows, in the order of the system.
func unitsOf(sizes, list []int) []int {
	var units []int
	next := 0
	for k, size := range sizes {
		for range size {
			if slices.Contains(list, k) {
				units = append(units, next)
			}
			next++
		}
	}
	return units
}

// without has the block rows that are not in a list.
func without(n int, list []int) []int {
	return slices.DeleteFunc(every(n), func(k int) bool { return slices.Contains(list, k) })
}

// schur returns the Schur complement, and false if there is none.
func (w whole) schur(list []int) (whole, bool) {
	rest := without(len(w.sizes), list)
	e, r := unitsOf(w.sizes, list), unitsOf(w.sizes, rest)
	var sizes []int
	for _, k := range rest {
		sizes = append(sizes, w.sizes[k])
	}
	result := whole{sizes, w.n.part(r, r), w.right.part(r, []int{0})}
	if len(e) == 0 {
		return result, true
	}
	inverse := w.n.part(e, e).inverse()
	if inverse == nil {
		return whole{}, false
	}
	left := w.n.part(r, e).times(inverse)
	result.n = result.n.minus(left.times(w.n.part(e, r)))
	result.right = result.right.minus(left.times(w.right.part(e, []int{0})))
	return result, true
}

// system lists exactly the blocks that are not zero, and some others if r is not nil.
func (w whole) system(r *rand.Rand) api.System {
	s := api.System{Sizes: slices.Clone(w.sizes)}
	for i := range w.sizes {
		for j := range i + 1 {
			at := w.n.part(unitsOf(w.sizes, []int{i}), unitsOf(w.sizes, []int{j}))
			zero := !slices.ContainsFunc(slices.Concat(at...), func(x *big.Rat) bool { return x.Sign() != 0 })
			if !zero || r != nil && r.Intn(4) == 0 {
				s.Blocks = append(s.Blocks, api.Block{Row: i, Col: j, At: at.matrix()})
			}
		}
	}
	for _, row := range w.right {
		s.Right = append(s.Right, ofBig(row[0]))
	}
	return s
}

// number returns a fraction of some size; some are 0.
func number(r *rand.Rand, style int) *big.Rat {
	if r.Intn(6) == 0 {
		return new(big.Rat)
	}
	switch style {
	case 0:
		return big.NewRat(int64(r.Intn(5)-2), 1)
	case 1:
		return big.NewRat(int64(r.Intn(21)-10), int64(1+r.Intn(6)))
	}
	return big.NewRat(r.Int63()-1<<62, 1+r.Int63())
}

// random returns a system with up to so many block rows; its matrix may be singular.
func random(r *rand.Rand, most int) api.System {
	style := r.Intn(3)
	var w whole
	for range 1 + r.Intn(most) {
		w.sizes = append(w.sizes, 1+r.Intn(3))
	}
	var owner []int
	for k, size := range w.sizes {
		owner = append(owner, slices.Repeat([]int{k}, size)...)
	}
	empty := map[[2]int]bool{}
	for i := range w.sizes {
		for j := range i + 1 {
			empty[[2]int{i, j}] = r.Intn(3) == 0
		}
	}
	n := len(owner)
	w.n = made(n, n, func(i, j int) *big.Rat { return new(big.Rat) })
	for i := range n {
		for j := range i + 1 {
			if !empty[[2]int{owner[i], owner[j]}] {
				w.n[i][j] = number(r, style)
				w.n[j][i] = w.n[i][j]
			}
		}
	}
	w.right = made(n, 1, func(i, j int) *big.Rat { return number(r, style) })
	return w.system(r)
}

// definite returns a system with a positive definite matrix: a sum of squares of a few unknowns each.
func definite(r *rand.Rand, most int) api.System {
	w := wholeOf(random(r, most))
	n := len(w.n)
	w.n = made(n, n, func(i, j int) *big.Rat { return big.NewRat(int64(max(0, 1-abs(i-j))), int64(1+r.Intn(3))) })
	for range len(w.sizes) {
		units := unitsOf(w.sizes, []int{r.Intn(len(w.sizes)), r.Intn(len(w.sizes))})
		v := made(n, 1, func(i, j int) *big.Rat {
			if slices.Contains(units, i) {
				return number(r, 1)
			}
			return new(big.Rat)
		})
		for i := range n {
			for j := range n {
				w.n[i][j] = new(big.Rat).Add(w.n[i][j], new(big.Rat).Mul(v[i][0], v[j][0]))
			}
		}
	}
	return w.system(r)
}

// some calls check with many systems.
func some(rounds, most int, check func(r *rand.Rand, s api.System)) {
	r := rand.New(rand.NewSource(7))
	for k := range rounds {
		if k%3 == 0 {
			check(r, definite(r, most))
		} else {
			check(r, random(r, most))
		}
	}
}

// subset returns some of the block rows, in any order.
func subset(r *rand.Rand, n int) []int {
	return r.Perm(n)[:r.Intn(n+1)]
}

// equal fails the test if there is an error, or got is not want.
func equal(t *testing.T, what string, s api.System, got api.System, code api.Code, want api.System) {
	t.Helper()
	if code != api.OK || systemText(got) != systemText(want) {
		t.Fatalf("%s of %s: %s, %d, want %s", what, systemText(s), systemText(got), code, systemText(want))
	}
}

// permutations are all orders of the numbers below n.
func permutations(n int) [][]int {
	if n == 0 {
		return [][]int{nil}
	}
	var all [][]int
	for _, p := range permutations(n - 1) {
		for k := range n {
			all = append(all, slices.Insert(slices.Clone(p), k, n-1))
		}
	}
	return all
}
