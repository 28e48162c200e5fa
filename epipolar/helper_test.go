package epipolar_test

import (
	"math"
	"math/big"
	"math/rand"
	"slices"
	"strings"

	"fiducial/api"
	"fiducial/fraction"
	"fiducial/integer"
)

// The limits.
const (
	maxCoord = 1 << 20
	maxFocal = 1 << 20
	maxPairs = 64
)

// pick is an element of a list.
func pick[T any](r *rand.Rand, l ...T) T { return l[r.Intn(len(l))] }

// some calls check many times.
func some(rounds int, check func(r *rand.Rand)) {
	r := rand.New(rand.NewSource(28))
	for range rounds {
		check(r)
	}
}

// ofInt is the integer with the value of z.
func ofInt(z *big.Int) api.Int {
	x := api.Int{Negative: z.Sign() < 0}
	rest, group, billion := new(big.Int).Abs(z), new(big.Int), big.NewInt(1_000_000_000)
	for rest.Sign() > 0 {
		rest.QuoRem(rest, billion, group)
		x.Groups = append(x.Groups, uint32(group.Int64()))
	}
	return x
}

// ofRat is the canonical fraction with the value of z.
func ofRat(z *big.Rat) api.Rat { return api.Rat{Num: ofInt(z.Num()), Den: ofInt(z.Denom())} }

// bigOf is the value of a canonical fraction.
func bigOf(x api.Rat) *big.Rat {
	z, _ := new(big.Rat).SetString(integer.Text(x.Num) + "/" + integer.Text(x.Den))
	return z
}

// the arithmetic of the references.
func rat(n int) *big.Rat         { return new(big.Rat).SetInt64(int64(n)) }
func add(x, y *big.Rat) *big.Rat { return new(big.Rat).Add(x, y) }
func sub(x, y *big.Rat) *big.Rat { return new(big.Rat).Sub(x, y) }
func mul(x, y *big.Rat) *big.Rat { return new(big.Rat).Mul(x, y) }
func quo(x, y *big.Rat) *big.Rat { return new(big.Rat).Quo(x, y) }

// vec is a vector, mat a matrix, row by row.
type (
	vec [3]*big.Rat
	mat [9]*big.Rat
)

// vecOf and matOf have integers.
func vecOf(x, y, z int) vec { return vec{rat(x), rat(y), rat(z)} }
func matOf(l ...int) mat {
	var m mat
	for i := range m {
		m[i] = rat(l[i])
	}
	return m
}

// diagonal has three numbers on the diagonal.
func diagonal(x, y, z int) mat { return matOf(x, 0, 0, 0, y, 0, 0, 0, z) }

// made has the entries that a function returns.
func made(entry func(i, j int) *big.Rat) mat {
	var m mat
	for k := range m {
		m[k] = entry(k/3, k%3)
	}
	return m
}

// read is the matrix with the rows of f.
func read(f api.Matrix) mat {
	return made(func(i, j int) *big.Rat { return bigOf(f[i][j]) })
}

// rows are the rows of m.
func (m mat) rows() api.Matrix {
	f := make(api.Matrix, 3)
	for k, x := range m {
		f[k/3] = append(f[k/3], ofRat(x))
	}
	return f
}

// dot is the inner product.
func (v vec) dot(w vec) *big.Rat {
	return add(mul(v[0], w[0]), add(mul(v[1], w[1]), mul(v[2], w[2])))
}

// minus is v - w.
func (v vec) minus(w vec) vec { return vec{sub(v[0], w[0]), sub(v[1], w[1]), sub(v[2], w[2])} }

// row and column are vectors of m.
func (m mat) row(i int) vec    { return vec{m[3*i], m[3*i+1], m[3*i+2]} }
func (m mat) column(j int) vec { return vec{m[j], m[3+j], m[6+j]} }

// turned has rows and columns exchanged.
func (m mat) turned() mat { return made(func(i, j int) *big.Rat { return m[3*j+i] }) }

// by is the product of m and n.
func (m mat) by(n mat) mat {
	return made(func(i, j int) *big.Rat { return m.row(i).dot(n.column(j)) })
}

// times is the product of m and v.
func (m mat) times(v vec) vec { return vec{m.row(0).dot(v), m.row(1).dot(v), m.row(2).dot(v)} }

// scaled is k m.
func (m mat) scaled(k *big.Rat) mat {
	return made(func(i, j int) *big.Rat { return mul(k, m[3*i+j]) })
}

// plus is m + n.
func (m mat) plus(n mat) mat {
	return made(func(i, j int) *big.Rat { return add(m[3*i+j], n[3*i+j]) })
}

// isZero reports whether all entries are 0.
func (m mat) isZero() bool {
	return !slices.ContainsFunc(m[:], func(x *big.Rat) bool { return x.Sign() != 0 })
}

// minor is the determinant without the row i and the column j.
func (m mat) minor(i, j int) *big.Rat {
	var l []*big.Rat
	for k, x := range m {
		if k/3 != i && k%3 != j {
			l = append(l, x)
		}
	}
	return sub(mul(l[0], l[3]), mul(l[1], l[2]))
}

// cofactors are the minors with their signs.
func (m mat) cofactors() mat {
	return made(func(i, j int) *big.Rat { return mul(rat(1-(i+j)%2*2), m.minor(i, j)) })
}

// determinant is that of m.
func (m mat) determinant() *big.Rat { return m.row(0).dot(m.cofactors().row(0)) }

// trace is the sum of the squares of the entries: the trace of m m^T.
func (m mat) trace() *big.Rat {
	sum := rat(0)
	for _, x := range m {
		sum = add(sum, mul(x, x))
	}
	return sum
}

// isEssential reports whether m is an essential matrix.
func (m mat) isEssential() bool {
	product := m.by(m.turned()).by(m)
	return !m.isZero() && m.determinant().Sign() == 0 && product.scaled(rat(2)).plus(m.scaled(new(big.Rat).Neg(m.trace()))).isZero()
}

// skew is the matrix of the vector product with v: its columns are the products with the unit vectors.
func skew(v vec) mat {
	n := func(x *big.Rat) *big.Rat { return new(big.Rat).Neg(x) }
	zero := rat(0)
	return mat{zero, n(v[2]), v[1], v[2], zero, n(v[0]), n(v[1]), v[0], zero}
}

// turn is the matrix of a quaternion: its columns are the images of the unit vectors, q v q* / |q|^2.
func turn(q api.Quat) mat {
	product := func(p, q [4]*big.Rat) [4]*big.Rat {
		signs := [4][4]int{{1, -1, -1, -1}, {1, 1, 1, -1}, {1, -1, 1, 1}, {1, 1, -1, 1}}
		var x [4]*big.Rat
		for i := range x {
			x[i] = rat(0)
			for j := range 4 {
				x[i] = add(x[i], mul(rat(signs[i][j]), mul(p[j], q[i^j])))
			}
		}
		return x
	}
	x := [4]*big.Rat{rat(q.A), rat(q.B), rat(q.C), rat(q.D)}
	y := [4]*big.Rat{rat(q.A), new(big.Rat).Neg(x[1]), new(big.Rat).Neg(x[2]), new(big.Rat).Neg(x[3])}
	norm := product(x, y)[0]
	return made(func(i, j int) *big.Rat {
		unit := [4]*big.Rat{rat(0), rat(0), rat(0), rat(0)}
		unit[j+1] = rat(1)
		return quo(product(product(x, unit), y)[i+1], norm)
	})
}

// canonical are the numbers divided by the first one that is not 0, and multiplied by the least number that makes all of them integers.
func canonical(l []*big.Rat) []*big.Rat {
	first := l[slices.IndexFunc(l, func(x *big.Rat) bool { return x.Sign() != 0 })]
	least := big.NewInt(1)
	for _, x := range l {
		den := quo(x, first).Denom()
		least.Mul(least, new(big.Int).Quo(den, new(big.Int).GCD(nil, nil, least, den)))
	}
	list := make([]*big.Rat, len(l))
	for i, x := range l {
		list[i] = mul(quo(x, first), new(big.Rat).SetInt(least))
	}
	return list
}

// canon is the canonical form of a matrix.
func (m mat) canon() mat { return mat(canonical(m[:])) }

// text has the texts of some fractions; what is not canonical is marked.
func text(l ...api.Rat) string {
	var s []string
	for _, x := range l {
		if !fraction.Valid(x) {
			s = append(s, "?")
			continue
		}
		s = append(s, fraction.Text(x))
	}
	return strings.Join(s, " ")
}

// rowsText has the texts of the entries of a matrix.
func rowsText(f api.Matrix) string {
	var s []string
	for _, row := range f {
		s = append(s, "("+text(row...)+")")
	}
	return strings.Join(s, " ")
}

// number is a number of one of several sizes; many are 0 or 1.
func number(r *rand.Rand) *big.Rat {
	long := func(bits int) *big.Int {
		n := new(big.Int).Rand(r, new(big.Int).Lsh(big.NewInt(1), uint(bits)))
		return n.Sub(n, new(big.Int).Rsh(n, 1))
	}
	switch r.Intn(20) {
	case 0:
		return new(big.Rat).SetInt(long(200))
	case 1:
		return new(big.Rat).SetFrac(long(100), new(big.Int).Add(long(100), big.NewInt(1)))
	case 2, 3:
		return big.NewRat(int64(r.Intn(1<<21)-1<<20), int64(1+r.Intn(1<<20)))
	case 4, 5, 6:
		return big.NewRat(int64(r.Intn(21)-10), int64(1+r.Intn(6)))
	}
	return rat(r.Intn(7) - 3)
}

// random is a matrix that is not zero.
func random(r *rand.Rand) mat {
	for {
		m := made(func(i, j int) *big.Rat { return number(r) })
		if r.Intn(3) == 0 {
			k := r.Intn(9)
			for n := range m {
				if n < k {
					m[n] = rat(0)
				}
			}
		}
		if !m.isZero() {
			return m
		}
	}
}

// coordinate is a coordinate of one of several sizes.
func coordinate(r *rand.Rand) int {
	return pick(r, r.Intn(5)-2, r.Intn(201)-100, r.Intn(2*maxCoord+1)-maxCoord, maxCoord, -maxCoord)
}

// pair has the points (a, b) and (c, d).
func pair(a, b, c, d int) api.Pair {
	return api.Pair{From: api.Pix{X: a, Y: b}, To: api.Pix{X: c, Y: d}}
}

// anyPair has coordinates of any size.
func anyPair(r *rand.Rand) api.Pair {
	return pair(coordinate(r), coordinate(r), coordinate(r), coordinate(r))
}

// near has coordinates from -size to size.
func near(r *rand.Rand, size int) api.Pair {
	n := func() int { return r.Intn(2*size+1) - size }
	return pair(n(), n(), n(), n())
}

// point is a point of an image as a vector.
func point(p api.Pix) vec { return vecOf(p.X, p.Y, 1) }

// residual is the left side of the equation.
func (m mat) residual(p api.Pair) *big.Rat { return point(p.To).dot(m.times(point(p.From))) }

// notCanonical are values that are no fractions.
func notCanonical() []api.Rat {
	return []api.Rat{
		{},
		{Num: integer.Of(1)},
		{Num: integer.Of(2), Den: integer.Of(6)},
		{Num: integer.Of(1), Den: integer.Of(-1)},
		{Num: api.Int{Groups: []uint32{5, 0}}, Den: integer.Of(1)},
		{Num: api.Int{Groups: []uint32{1_000_000_000}}, Den: integer.Of(1)},
		{Num: api.Int{Negative: true}, Den: integer.Of(1)},
		{Den: integer.Of(2)},
	}
}

// invalidMatrices are not of the described form.
func invalidMatrices() []api.Matrix {
	one := fraction.Whole(1)
	l := []api.Matrix{nil, {}, {nil, nil, nil}, matOf(0, 0, 0, 0, 0, 0, 0, 0, 0).rows()}
	for _, lengths := range [][]int{{3}, {3, 3}, {3, 3, 3, 3}, {2, 2, 2}, {4, 4, 4}, {3, 3, 2}, {3, 2, 3}, {2, 3, 3}, {4, 3, 3}, {3, 3, 4}, {2, 3, 4}, {9}, {0, 3, 3}, {3, 3, 3, 0}} {
		var m api.Matrix
		for _, n := range lengths {
			m = append(m, slices.Repeat([]api.Rat{one}, n))
		}
		l = append(l, m)
	}
	for _, x := range notCanonical() {
		for k := range 9 {
			m := diagonal(1, 1, 0).rows()
			m[k/3][k%3] = x
			l = append(l, m)
		}
	}
	return l
}

// outside are numbers that are no coordinates.
func outside() []int { return []int{-maxCoord - 1, maxCoord + 1, math.MinInt, math.MaxInt} }

// outsidePairs are pairs with a coordinate that is out of its range.
func outsidePairs() []api.Pair {
	var l []api.Pair
	for _, x := range outside() {
		l = append(l, pair(x, 0, 0, 0), pair(0, x, 0, 0), pair(0, 0, x, 0), pair(0, 0, 0, x))
	}
	return l
}

// quat is a quaternion that is not zero, with components of magnitudes up to size.
func quat(r *rand.Rand, size int) api.Quat {
	for {
		n := func() int { return r.Intn(2*size+1) - size }
		if q := (api.Quat{A: n(), B: n(), C: n(), D: n()}); q != (api.Quat{}) {
			return q
		}
	}
}

// station is a valid station.
func station(r *rand.Rand) api.Station {
	s := api.Station{
		At:     api.Spot{X: coordinate(r), Y: coordinate(r), Z: coordinate(r)},
		Turn:   quat(r, pick(r, 1, 1, 3, 20, maxCoord)),
		Focal:  pick(r, 1, 64, 1+r.Intn(maxFocal), maxFocal),
		Centre: api.Pix{X: coordinate(r), Y: coordinate(r)},
	}
	if r.Intn(3) == 0 {
		s.Centre = api.Pix{}
	}
	return s
}

// small is a station with small numbers.
func small(r *rand.Rand) api.Station {
	return api.Station{At: api.Spot{X: r.Intn(9) - 4, Y: r.Intn(9) - 4, Z: r.Intn(9) - 4}, Turn: quat(r, 2), Focal: 1 + r.Intn(9), Centre: api.Pix{X: r.Intn(5) - 2, Y: r.Intn(5) - 2}}
}

// position is where a station stands.
func position(s api.Station) vec { return vecOf(s.At.X, s.At.Y, s.At.Z) }

// lens is the matrix K of a station.
func lens(s api.Station) mat { return matOf(s.Focal, 0, s.Centre.X, 0, s.Focal, s.Centre.Y, 0, 0, 1) }

// images is the function of the images of points of space in a station, as vectors with 1 at the end; false for a point that has none.
func images(s api.Station) func(p vec) (vec, bool) {
	m, at := lens(s).by(turn(s.Turn).turned()), position(s)
	return func(p vec) (vec, bool) {
		v := m.times(p.minus(at))
		if v[2].Sign() == 0 {
			return vec{}, false
		}
		return vec{quo(v[0], v[2]), quo(v[1], v[2]), rat(1)}, true
	}
}

// restless are stations that do not turn, some of them with other faults.
func restless() []api.Station {
	return []api.Station{{}, {Focal: 1}, {Focal: -1}, {At: api.Spot{X: maxCoord + 1}, Focal: 1}, {Centre: api.Pix{Y: math.MinInt}}}
}

// far are stations with a number that is out of its range.
func far() []api.Station {
	var l []api.Station
	good := api.Station{At: api.Spot{X: 1}, Turn: api.Quat{A: 1}, Focal: 64}
	for _, x := range outside() {
		for k := range 9 {
			s := good
			for i, number := range []*int{&s.At.X, &s.At.Y, &s.At.Z, &s.Turn.A, &s.Turn.B, &s.Turn.C, &s.Turn.D, &s.Centre.X, &s.Centre.Y} {
				if i == k {
					*number = x
				}
			}
			l = append(l, s)
		}
	}
	for _, x := range []int{0, -1, maxFocal + 1, math.MinInt, math.MaxInt} {
		s := good
		s.Focal = x
		l = append(l, s)
	}
	return l
}

// null is the canonical basis of the vectors that some rows take to 0, by Gauss's elimination.
func null(rows [][]*big.Rat, n int) [][]*big.Rat {
	var pivots []int
	for j := range n {
		k := len(pivots)
		i := k
		for i < len(rows) && rows[i][j].Sign() == 0 {
			i++
		}
		if i == len(rows) {
			continue
		}
		rows[i], rows[k] = rows[k], rows[i]
		for i, row := range rows {
			factor := quo(row[j], rows[k][j])
			for m := range row {
				if i != k {
					row[m] = sub(row[m], mul(factor, rows[k][m]))
				}
			}
		}
		pivots = append(pivots, j)
	}
	var basis [][]*big.Rat
	for j := range n {
		if slices.Contains(pivots, j) {
			continue
		}
		v := slices.Repeat([]*big.Rat{rat(0)}, n)
		v[j] = rat(1)
		for k, pivot := range pivots {
			v[pivot] = quo(new(big.Rat).Neg(rows[k][j]), rows[k][pivot])
		}
		basis = append(basis, v)
	}
	return basis
}

// solutions are the canonical basis of the matrices that satisfy the equations of some pairs.
func solutions(l []api.Pair) []mat {
	var rows [][]*big.Rat
	for _, p := range l {
		var row []*big.Rat
		for _, b := range point(p.To) {
			for _, a := range point(p.From) {
				row = append(row, mul(b, a))
			}
		}
		rows = append(rows, row)
	}
	var basis []mat
	for _, v := range null(rows, 9) {
		basis = append(basis, mat(v))
	}
	return basis
}

// isBlank reports whether a fraction is the zero value.
func isBlank(x api.Rat) bool {
	return !x.Num.Negative && !x.Den.Negative && len(x.Num.Groups) == 0 && len(x.Den.Groups) == 0
}

// overwrite changes all that a number shows of its memory, and what an append would write behind it.
func overwrite(l ...api.Int) {
	for _, x := range l {
		for i := range x.Groups {
			x.Groups[i] = 987654321
		}
		_ = append(x.Groups, 987654321)
	}
}
