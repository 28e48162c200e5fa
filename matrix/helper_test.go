package matrix_test

import (
	"fmt"
	"math/big"
	"math/rand"
	"slices"
	"strings"
	"testing"

	"fiducial/api"
	"fiducial/fraction"
	"fiducial/integer"
	"fiducial/matrix"
)

// rat is the fraction with a text.
func rat(s string) api.Rat {
	z, ok := new(big.Rat).SetString(s)
	if !ok {
		panic(s + " is no fraction")
	}
	return ofBig(z)
}

// list is the list of the fractions with some texts, separated by spaces.
func list(s string) []api.Rat {
	var l []api.Rat
	for _, x := range strings.Fields(s) {
		l = append(l, rat(x))
	}
	return l
}

// rows is the matrix with the texts of its rows, separated by semicolons.
func rows(s string) api.Matrix {
	var a api.Matrix
	for row := range strings.SplitSeq(s, ";") {
		a = append(a, list(row))
	}
	return a
}

// bigOf is the value of x, which is canonical.
func bigOf(x api.Rat) *big.Rat {
	num, _ := new(big.Int).SetString(integer.Text(x.Num), 10)
	den, _ := new(big.Int).SetString(integer.Text(x.Den), 10)
	return new(big.Rat).SetFrac(num, den)
}

// ofBig is the canonical fraction with the value of z.
func ofBig(z *big.Rat) api.Rat {
	return api.Rat{Num: ofInt(z.Num()), Den: ofInt(z.Denom())}
}

// ofInt is the canonical integer with the value of z.
func ofInt(z *big.Int) api.Int {
	x := api.Int{Negative: z.Sign() < 0}
	rest, group, billion := new(big.Int).Abs(z), new(big.Int), big.NewInt(1_000_000_000)
	for rest.Sign() > 0 {
		rest.QuoRem(rest, billion, group)
		x.Groups = append(x.Groups, uint32(group.Int64()))
	}
	return x
}

// listText has the texts of the elements of a list.
func listText(l []api.Rat) string {
	var s []string
	for _, x := range l {
		s = append(s, fraction.Text(x))
	}
	return strings.Join(s, " ")
}

// text has the texts of the rows of a matrix.
func text(a [][]api.Rat) string {
	var s []string
	for _, row := range a {
		s = append(s, listText(row))
	}
	return strings.Join(s, ";")
}

// sameRat reports whether x and y have the same form.
func sameRat(x, y api.Rat) bool {
	return x.Num.Negative == y.Num.Negative && slices.Equal(x.Num.Groups, y.Num.Groups) && x.Den.Negative == y.Den.Negative && slices.Equal(x.Den.Groups, y.Den.Groups)
}

// sameList reports whether x and y have the same form.
func sameList(x, y []api.Rat) bool {
	return slices.EqualFunc(x, y, sameRat)
}

// same reports whether a and b have the same form.
func same(a, b [][]api.Rat) bool {
	return slices.EqualFunc(a, b, sameList)
}

// equal fails the test if there is an error, or got is not the canonical form of want.
func equal(t *testing.T, what string, got [][]api.Rat, code api.Code, want reference) {
	t.Helper()
	if w := want.matrix(); code != api.OK || !same(got, w) {
		t.Fatalf("%s = %s, %d, want %s", what, text(got), code, text(w))
	}
}

// notCanonical are values that are no fractions.
func notCanonical() []api.Rat {
	return []api.Rat{
		{},
		{Num: integer.Of(1)},
		{Num: integer.Of(2), Den: integer.Of(6)},
		{Num: integer.Of(1), Den: integer.Of(-1)},
		{Num: api.Int{Groups: []uint32{5, 0}}, Den: integer.Of(1)},
		{Num: api.Int{Groups: []uint32{1_000_000_000}}, Den: integer.Of(1)},
		{Num: api.Int{Negative: true}, Den: integer.Of(1)},
	}
}

// notMatrices are values that are no matrices.
func notMatrices() []api.Matrix {
	row := func(n int) []api.Rat { return make([]api.Rat, n) }
	zeros := func(m, n int) api.Matrix {
		a := make(api.Matrix, m)
		for i := range a {
			a[i] = row(n)
			for j := range a[i] {
				a[i][j] = fraction.Whole(0)
			}
		}
		return a
	}
	l := []api.Matrix{nil, {}, {nil}, {{}}, {{}, {}}, zeros(65, 1), zeros(1, 65), zeros(65, 65), rows("1 2;3"), rows("1;2 3"), rows("1 2;3 4;"), {list("1"), nil}, {nil, list("1")}}
	for _, x := range notCanonical() {
		a := rows("1 2;3 4")
		a[1][0] = x
		l = append(l, a, api.Matrix{{x}})
	}
	return l
}

// number returns a fraction of some size; many are 0.
func number(r *rand.Rand, style int) api.Rat {
	var x api.Rat
	switch style {
	case 0:
		x = fraction.Whole(r.Intn(5) - 2)
	case 1:
		x, _ = fraction.Of(r.Intn(21)-10, 1+r.Intn(6))
	case 2:
		x, _ = fraction.Of(r.Intn(1<<60)-1<<59, 1+r.Intn(1<<60))
	}
	if r.Intn(5) == 0 {
		return fraction.Whole(0)
	}
	return x
}

// random returns a matrix with so many rows and columns; in some of them rows depend on one another.
func random(r *rand.Rand, m, n int) api.Matrix {
	style := r.Intn(3)
	a := make(api.Matrix, m)
	for i := range a {
		a[i] = randomList(r, n, style)
	}
	if r.Intn(2) == 0 {
		dependent := a[r.Intn(m)]
		x, y := number(r, 1), number(r, 1)
		first, second := a[r.Intn(m)], a[r.Intn(m)]
		for j := range dependent {
			dependent[j] = fraction.Add(fraction.Mul(x, first[j]), fraction.Mul(y, second[j]))
		}
	}
	return a
}

// randomList returns a list of n numbers.
func randomList(r *rand.Rand, n, style int) []api.Rat {
	l := make([]api.Rat, n)
	for i := range l {
		l[i] = number(r, style)
	}
	return l
}

// symmetric returns a symmetric matrix; some are positive definite.
func symmetric(r *rand.Rand, n int) api.Matrix {
	a := random(r, n, n)
	transposed, _ := matrix.Transpose(a)
	if r.Intn(2) == 0 {
		s, _ := matrix.Mul(a, transposed)
		return s
	}
	s, _ := matrix.Add(a, transposed)
	return s
}

// some calls check with matrices of all small sizes.
func some(rounds, most int, check func(r *rand.Rand, a api.Matrix)) {
	r := rand.New(rand.NewSource(5))
	for range rounds {
		for m := range most {
			for n := range most {
				check(r, random(r, m+1, n+1))
			}
		}
	}
}

// squares calls check with square matrices of all small sizes.
func squares(rounds, most int, check func(r *rand.Rand, a api.Matrix)) {
	r := rand.New(rand.NewSource(6))
	for range rounds {
		for n := range most {
			check(r, random(r, n+1, n+1))
			check(r, symmetric(r, n+1))
		}
	}
}

// reference is a matrix of the numbers of math/big.
type reference [][]*big.Rat

func refer(a [][]api.Rat) reference {
	r := make(reference, len(a))
	for i, row := range a {
		for _, x := range row {
			r[i] = append(r[i], bigOf(x))
		}
	}
	return r
}

func (a reference) matrix() api.Matrix {
	r := make(api.Matrix, len(a))
	for i, row := range a {
		for _, x := range row {
			r[i] = append(r[i], ofBig(x))
		}
	}
	return r
}

// made returns the reference with some elements.
func made(m, n int, element func(i, j int) *big.Rat) reference {
	r := make(reference, m)
	for i := range r {
		for j := range n {
			r[i] = append(r[i], element(i, j))
		}
	}
	return r
}

func (a reference) times(b reference) reference {
	return made(len(a), len(b[0]), func(i, j int) *big.Rat {
		sum := new(big.Rat)
		for k := range b {
			sum.Add(sum, new(big.Rat).Mul(a[i][k], b[k][j]))
		}
		return sum
	})
}

func (a reference) transposed() reference {
	return made(len(a[0]), len(a), func(i, j int) *big.Rat { return a[j][i] })
}

// column is a list as a matrix of one column.
func column(l []api.Rat) reference {
	return refer([][]api.Rat{l}).transposed()
}

// echelon changes a into its reduced row echelon form, and returns the pivot columns.
func (a reference) echelon() []int {
	var pivots []int
	for j := range a[0] {
		r := len(pivots)
		i := r
		for i < len(a) && a[i][j].Sign() == 0 {
			i++
		}
		if i == len(a) {
			continue
		}
		a[i], a[r] = a[r], a[i]
		inverse := new(big.Rat).Inv(a[r][j])
		for k := range a[r] {
			a[r][k].Mul(a[r][k], inverse)
		}
		for i := range a {
			if x := new(big.Rat).Set(a[i][j]); i != r {
				for k := range a[i] {
					a[i][k].Sub(a[i][k], new(big.Rat).Mul(x, a[r][k]))
				}
			}
		}
		pivots = append(pivots, j)
	}
	return pivots
}

// determinant is the sum over all permutations, by the first row.
func (a reference) determinant() *big.Rat {
	if len(a) == 0 {
		return big.NewRat(1, 1)
	}
	sum := new(big.Rat)
	for j, x := range a[0] {
		var minor reference
		for _, row := range a[1:] {
			minor = append(minor, slices.Concat(row[:j], row[j+1:]))
		}
		term := new(big.Rat).Mul(x, minor.determinant())
		if j%2 == 1 {
			term.Neg(term)
		}
		sum.Add(sum, term)
	}
	return sum
}

// leading is the part of the first k rows and columns.
func (a reference) leading(k int) reference {
	return made(k, k, func(i, j int) *big.Rat { return a[i][j] })
}

// zero fails the test if a result that goes with an error is not zero.
func zero(t *testing.T, what string, results ...any) {
	t.Helper()
	for _, x := range results {
		if s := fmt.Sprint(x); s != "[]" && s != "0" && s != "false" && s != fmt.Sprint(api.Rat{}) {
			t.Errorf("%s: %s together with an error", what, s)
		}
	}
}
