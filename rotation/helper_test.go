package rotation_test

import (
	"math"
	"math/big"
	"math/rand"
	"slices"
	"strings"
	"testing"

	"fiducial/api"
	"fiducial/fraction"
	"fiducial/integer"
	"fiducial/rotation"
)

// limit is the greatest magnitude of a component.
const limit = 1 << 20

// quat is the quaternion with some components.
func quat(a, b, c, d int) api.Quat {
	return api.Quat{A: a, B: b, C: c, D: d}
}

// parts are the components of a quaternion.
func parts(q api.Quat) [4]int {
	return [4]int{q.A, q.B, q.C, q.D}
}

// list is the list of the fractions with some texts, separated by spaces.
func list(s string) []api.Rat {
	var l []api.Rat
	for _, x := range strings.Fields(s) {
		z, ok := new(big.Rat).SetString(x)
		if !ok {
			panic(x + " is no fraction")
		}
		l = append(l, ofBig(z))
	}
	return l
}

// rows is the matrix with the texts of its rows, separated by semicolons.
func rows(s string) api.Matrix {
	var a api.Matrix
	for row := range strings.SplitSeq(s, ";") {
		a = append(a, list(row))
	}
	return a
}

// bigOf is the value of x, which is canonical.
func bigOf(x api.Rat) *big.Rat {
	num, _ := new(big.Int).SetString(integer.Text(x.Num), 10)
	den, _ := new(big.Int).SetString(integer.Text(x.Den), 10)
	return new(big.Rat).SetFrac(num, den)
}

// ofBig is the canonical fraction with the value of z.
func ofBig(z *big.Rat) api.Rat {
	return api.Rat{Num: ofInt(z.Num()), Den: ofInt(z.Denom())}
}

// ofInt is the canonical integer with the value of z.
func ofInt(z *big.Int) api.Int {
	x := api.Int{Negative: z.Sign() < 0}
	rest, group, billion := new(big.Int).Abs(z), new(big.Int), big.NewInt(1_000_000_000)
	for rest.Sign() > 0 {
		rest.QuoRem(rest, billion, group)
		x.Groups = append(x.Groups, uint32(group.Int64()))
	}
	return x
}

// listText has the texts of the elements of a list; what is not canonical is marked.
func listText(l []api.Rat) string {
	var s []string
	for _, x := range l {
		if !fraction.Valid(x) {
			s = append(s, "?")
			continue
		}
		s = append(s, fraction.Text(x))
	}
	return strings.Join(s, " ")
}

// text has the texts of the rows of a matrix.
func text(a [][]api.Rat) string {
	var s []string
	for _, row := range a {
		s = append(s, listText(row))
	}
	return strings.Join(s, ";")
}

// isBlank reports whether x is the zero value.
func isBlank(x api.Rat) bool {
	return !x.Num.Negative && !x.Den.Negative && len(x.Num.Groups) == 0 && len(x.Den.Groups) == 0
}

// notCanonical are values that are no fractions.
func notCanonical() []api.Rat {
	return []api.Rat{
		{},
		{Num: integer.Of(1)},
		{Num: integer.Of(2), Den: integer.Of(6)},
		{Num: integer.Of(1), Den: integer.Of(-1)},
		{Num: api.Int{Groups: []uint32{5, 0}}, Den: integer.Of(1)},
		{Num: api.Int{Groups: []uint32{1_000_000_000}}, Den: integer.Of(1)},
		{Num: api.Int{Negative: true}, Den: integer.Of(1)},
	}
}

// invalid are quaternions that are no rotations, with their codes.
func invalid() map[api.Quat]api.Code {
	m := map[api.Quat]api.Code{{}: api.ErrArgument}
	for _, x := range []int{limit + 1, -limit - 1, math.MaxInt, math.MinInt, 1 << 32, 1 << 62, -1 << 62} {
		for _, q := range []api.Quat{quat(x, 0, 0, 0), quat(0, x, 0, 0), quat(0, 0, x, 1), quat(1, 2, 3, x), quat(x, x, x, x)} {
			m[q] = api.ErrLimit
		}
	}
	return m
}

// random returns a quaternion; its components are small or up to the limit, and many are 0.
func random(r *rand.Rand) api.Quat {
	most := []int{2, 5, 1000, limit}[r.Intn(4)]
	for {
		var x [4]int
		for i := range x {
			if r.Intn(4) > 0 {
				x[i] = r.Intn(2*most+1) - most
			}
		}
		if q := quat(x[0], x[1], x[2], x[3]); q != (api.Quat{}) {
			return q
		}
	}
}

// small returns a quaternion whose components are at most most in magnitude.
func small(r *rand.Rand, most int) api.Quat {
	for {
		q := quat(r.Intn(2*most+1)-most, r.Intn(2*most+1)-most, r.Intn(2*most+1)-most, r.Intn(2*most+1)-most)
		if q != (api.Quat{}) {
			return q
		}
	}
}

// number returns a fraction; some are 0, some have long parts.
func number(r *rand.Rand) api.Rat {
	switch r.Intn(4) {
	case 0:
		return fraction.Whole(0)
	case 1:
		return ofBig(big.NewRat(r.Int63()-1<<62, 1+r.Int63()))
	}
	return ofBig(big.NewRat(int64(r.Intn(41)-20), int64(1+r.Intn(12))))
}

// some calls check many times.
func some(rounds int, check func(r *rand.Rand)) {
	r := rand.New(rand.NewSource(8))
	for range rounds {
		check(r)
	}
}

// four are the components of a quaternion in the numbers of math/big.
type four [4]*big.Rat

// bigQuat has the components of q.
func bigQuat(q api.Quat) four {
	var x four
	for i, n := range parts(q) {
		x[i] = big.NewRat(int64(n), 1)
	}
	return x
}

// bigFour has four fractions.
func bigFour(l [4]api.Rat) four {
	var x four
	for i, n := range l {
		x[i] = bigOf(n)
	}
	return x
}

// times is the product, from the table of the products of 1, i, j, k.
func (x four) times(y four) four {
	table := [4][4]int{{1, 2, 3, 4}, {2, -1, 4, -3}, {3, -4, -1, 2}, {4, 3, -2, -1}}
	p := four{new(big.Rat), new(big.Rat), new(big.Rat), new(big.Rat)}
	for i := range x {
		for k := range y {
			term := new(big.Rat).Mul(x[i], y[k])
			to := table[i][k]
			if to < 0 {
				to = -to
				term.Neg(term)
			}
			p[to-1].Add(p[to-1], term)
		}
	}
	return p
}

// conjugate has the opposite last three components.
func (x four) conjugate() four {
	return four{x[0], new(big.Rat).Neg(x[1]), new(big.Rat).Neg(x[2]), new(big.Rat).Neg(x[3])}
}

// norm is the sum of the squares.
func (x four) norm() *big.Rat {
	sum := new(big.Rat)
	for _, n := range x {
		sum.Add(sum, new(big.Rat).Mul(n, n))
	}
	return sum
}

// canonical is the canonical quaternion of four fractions that are not all 0, and whether its components are within the limit.
func (x four) canonical() (api.Quat, bool) {
	var lead *big.Rat
	common := big.NewInt(1)
	for _, n := range x {
		if lead == nil && n.Sign() != 0 {
			lead = n
		}
		common.Mul(common, n.Denom())
	}
	divisor := new(big.Int)
	var whole [4]*big.Int
	for i, n := range x {
		whole[i] = new(big.Int).Mul(n.Num(), new(big.Int).Quo(common, n.Denom()))
		divisor.GCD(nil, nil, divisor, new(big.Int).Abs(whole[i]))
	}
	if lead.Sign() < 0 {
		divisor.Neg(divisor)
	}
	var c [4]int
	within := true
	for i, n := range whole {
		n.Quo(n, divisor)
		within = within && n.CmpAbs(big.NewInt(limit)) <= 0
		c[i] = int(n.Int64())
	}
	return quat(c[0], c[1], c[2], c[3]), within
}

// turned is the vector that a rotation makes of v: q v q' / norm.
func turned(q api.Quat, v [3]api.Rat) []api.Rat {
	x := bigQuat(q)
	y := x.times(four{new(big.Rat), bigOf(v[0]), bigOf(v[1]), bigOf(v[2])}).times(x.conjugate())
	var l []api.Rat
	for _, n := range y[1:] {
		l = append(l, ofBig(new(big.Rat).Quo(n, x.norm())))
	}
	return l
}

// equal fails the test if the result is not the canonical quaternion of want, or ErrLimit where this is too large.
func equal(t *testing.T, what string, got api.Quat, code api.Code, want four) bool {
	t.Helper()
	q, within := want.canonical()
	if !within {
		if code != api.ErrLimit || got != (api.Quat{}) {
			t.Fatalf("%s = %v, %d, want ErrLimit", what, got, code)
		}
		return false
	}
	if code != api.OK || got != q {
		t.Fatalf("%s = %v, %d, want %v", what, got, code, q)
	}
	return true
}

// matrixOf is the matrix of a valid quaternion.
func matrixOf(t *testing.T, q api.Quat) api.Matrix {
	t.Helper()
	m, code := rotation.Matrix(q)
	if code != api.OK {
		t.Fatalf("Matrix(%v): %d", q, code)
	}
	return m
}

// sameRat reports whether x and y have the same form.
func sameRat(x, y api.Rat) bool {
	return x.Num.Negative == y.Num.Negative && slices.Equal(x.Num.Groups, y.Num.Groups) && x.Den.Negative == y.Den.Negative && slices.Equal(x.Den.Groups, y.Den.Groups)
}
