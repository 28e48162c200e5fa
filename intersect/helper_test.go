package intersect_test

import (
	"math/big"
	"math/rand"
	"slices"
	"strings"

	"fiducial/api"
	"fiducial/fraction"
	"fiducial/integer"
)

// The limits.
const (
	maxImages = 64
	maxWeight = 1 << 20
)

// pick is an element of a list.
func pick[T any](r *rand.Rand, l ...T) T { return l[r.Intn(len(l))] }

// some calls check many times.
func some(rounds int, check func(r *rand.Rand)) {
	r := rand.New(rand.NewSource(25))
	for range rounds {
		check(r)
	}
}

// notCanonical are values that are no fractions.
func notCanonical() []api.Rat {
	return []api.Rat{
		{},
		{Num: integer.Of(1)},
		{Den: api.Int{Groups: []uint32{0}}},
		{Num: integer.Of(2), Den: integer.Of(6)},
		{Num: integer.Of(1), Den: integer.Of(-1)},
		{Num: api.Int{Groups: []uint32{5, 0}}, Den: integer.Of(1)},
		{Num: api.Int{Groups: []uint32{1_000_000_000}}, Den: integer.Of(1)},
		{Num: api.Int{Negative: true}, Den: integer.Of(1)},
		{Den: integer.Of(2)},
	}
}

// isZero reports whether all fractions are the zero value.
func isZero(l ...api.Rat) bool {
	return !slices.ContainsFunc(l, func(x api.Rat) bool {
		return x.Num.Negative || x.Den.Negative || len(x.Num.Groups) > 0 || len(x.Den.Groups) > 0
	})
}

// text has the texts of some fractions; what is not canonical is marked.
func text(l ...api.Rat) string {
	var s []string
	for _, x := range l {
		if !fraction.Valid(x) {
			s = append(s, "?")
			continue
		}
		s = append(s, fraction.Text(x))
	}
	return strings.Join(s, " ")
}

// rayText has the texts of the numbers of some rays.
func rayText(l ...api.Ray) string {
	var s []string
	for _, a := range l {
		s = append(s, "("+text(a.Origin[:]...)+" | "+text(a.Along[:]...)+")")
	}
	return strings.Join(s, " ")
}

// bigText has the texts of some fractions.
func bigText(l ...*big.Rat) string {
	var s []string
	for _, x := range l {
		s = append(s, x.RatString())
	}
	return strings.Join(s, " ")
}

// ofBig is the canonical fraction with the value of z.
func ofBig(z *big.Rat) api.Rat {
	num, _ := integer.Parse(z.Num().String())
	den, _ := integer.Parse(z.Denom().String())
	x, _ := fraction.New(num, den)
	return x
}

// bigOf is the value of a canonical fraction.
func bigOf(x api.Rat) *big.Rat {
	z, _ := new(big.Rat).SetString(integer.Text(x.Num) + "/" + integer.Text(x.Den))
	return z
}

// the arithmetic of the references.
func rat(n int) *big.Rat         { return new(big.Rat).SetInt64(int64(n)) }
func add(x, y *big.Rat) *big.Rat { return new(big.Rat).Add(x, y) }
func sub(x, y *big.Rat) *big.Rat { return new(big.Rat).Sub(x, y) }
func mul(x, y *big.Rat) *big.Rat { return new(big.Rat).Mul(x, y) }
func quo(x, y *big.Rat) *big.Rat { return new(big.Rat).Quo(x, y) }

// vector is a vector in the references.
type vector [3]*big.Rat

// vectorOf is the vector of a point or direction.
func vectorOf(p [3]api.Rat) vector { return vector{bigOf(p[0]), bigOf(p[1]), bigOf(p[2])} }

// point is the point of a vector.
func (v vector) point() [3]api.Rat { return [3]api.Rat{ofBig(v[0]), ofBig(v[1]), ofBig(v[2])} }

// plus is v + k w.
func (v vector) plus(k *big.Rat, w vector) vector {
	return vector{add(v[0], mul(k, w[0])), add(v[1], mul(k, w[1])), add(v[2], mul(k, w[2]))}
}

// minus is v - w.
func (v vector) minus(w vector) vector { return v.plus(rat(-1), w) }

// dot is the inner product.
func (v vector) dot(w vector) *big.Rat {
	return add(mul(v[0], w[0]), add(mul(v[1], w[1]), mul(v[2], w[2])))
}

// line is a ray in the references.
type line struct{ origin, along vector }

// lineOf is the line of a ray.
func lineOf(a api.Ray) line { return line{vectorOf(a.Origin), vectorOf(a.Along)} }

// ray is the ray of a line.
func (a line) ray() api.Ray { return api.Ray{Origin: a.origin.point(), Along: a.along.point()} }

// at is the point with a parameter.
func (a line) at(s *big.Rat) vector { return a.origin.plus(s, a.along) }

// missed is the vector from the nearest point of the line to p.
func (a line) missed(p vector) vector {
	w := p.minus(a.origin)
	return w.plus(quo(w.dot(a.along), new(big.Rat).Neg(a.along.dot(a.along))), a.along)
}

// miss is the squared distance of p.
func (a line) miss(p vector) *big.Rat {
	m := a.missed(p)
	return m.dot(m)
}

// isParallel reports whether the determinants of two coordinates of both directions are all 0.
func isParallel(a, b line) bool {
	for i := range 3 {
		j := (i + 1) % 3
		if mul(a.along[i], b.along[j]).Cmp(mul(a.along[j], b.along[i])) != 0 {
			return false
		}
	}
	return true
}

// parallaxOf is the squared sine of the angle.
func parallaxOf(a, b line) *big.Rat {
	mixed := a.along.dot(b.along)
	return sub(rat(1), quo(mul(mixed, mixed), mul(a.along.dot(a.along), b.along.dot(b.along))))
}

// number is a number of one of several sizes; many are 0 or 1.
func number(r *rand.Rand) *big.Rat {
	long := func(bits int) *big.Int {
		n := new(big.Int).Rand(r, new(big.Int).Lsh(big.NewInt(1), uint(bits)))
		return n.Sub(n, new(big.Int).Rsh(n, 1))
	}
	switch r.Intn(20) {
	case 0:
		return new(big.Rat).SetInt(long(200))
	case 1:
		return new(big.Rat).SetFrac(long(120), new(big.Int).Add(long(120), big.NewInt(1)))
	case 2, 3:
		return big.NewRat(int64(r.Intn(1<<21)-1<<20), int64(1+r.Intn(1<<20)))
	case 4, 5, 6:
		return big.NewRat(int64(r.Intn(21)-10), int64(1+r.Intn(6)))
	}
	return rat(r.Intn(7) - 3)
}

// vectorAt is a vector at random.
func vectorAt(r *rand.Rand) vector { return vector{number(r), number(r), number(r)} }

// direction is a vector that is not zero.
func direction(r *rand.Rand) vector {
	for {
		if v := vectorAt(r); v.dot(v).Sign() > 0 {
			return v
		}
	}
}

// random is a line; it may be one of those before, a parallel of one, or meet one.
func random(r *rand.Rand, before ...line) line {
	a := line{vectorAt(r), direction(r)}
	if len(before) == 0 {
		return a
	}
	b := pick(r, before...)
	switch r.Intn(9) {
	case 0:
		return b
	case 1:
		a.along = b.along
	case 2:
		for {
			if k := number(r); k.Sign() != 0 {
				a.along = vector{rat(0), rat(0), rat(0)}.plus(k, b.along)
				return a
			}
		}
	case 3:
		a.origin = b.at(number(r))
	case 4:
		a.origin = b.origin
	case 5:
		a = line{b.at(number(r)), vector{rat(0), rat(0), rat(0)}.plus(rat(-2), b.along)}
	}
	return a
}

// lines are some lines.
func lines(r *rand.Rand, n int) []line {
	var l []line
	for range n {
		l = append(l, random(r, l...))
	}
	return l
}

// parallels are some lines that are all parallel.
func parallels(r *rand.Rand, n int) []line {
	along := direction(r)
	l := make([]line, n)
	for i := range l {
		l[i] = line{vectorAt(r), vector{rat(0), rat(0), rat(0)}.plus(big.NewRat(int64(pick(r, -3, -1, 1, 1, 2)), int64(1+r.Intn(3))), along)}
	}
	return l
}

// raysOf are the rays of some lines.
func raysOf(l []line) []api.Ray {
	rays := make([]api.Ray, len(l))
	for i, a := range l {
		rays[i] = a.ray()
	}
	return rays
}

// ray is a ray with integers.
func ray(x, y, z, dx, dy, dz int) api.Ray {
	return api.Ray{Origin: whole(x, y, z), Along: whole(dx, dy, dz)}
}

// whole is a point with integers.
func whole(x, y, z int) [3]api.Rat {
	return [3]api.Rat{fraction.Whole(x), fraction.Whole(y), fraction.Whole(z)}
}

// weightsOf are n weights.
func weightsOf(r *rand.Rand, n int) []int {
	l := make([]int, n)
	for i := range l {
		l[i] = pick(r, 1, maxWeight, 1+r.Intn(5), 1+r.Intn(5), 1+r.Intn(maxWeight))
	}
	return l
}

// invalidRays are rays with a number that is not canonical, or with the direction zero.
func invalidRays() []api.Ray {
	l := []api.Ray{{}, ray(0, 0, 0, 0, 0, 0), ray(1, 2, 3, 0, 0, 0), {Origin: whole(0, 0, 0)}, {Along: whole(1, 0, 0)}}
	for _, x := range notCanonical() {
		for i := range 3 {
			a, b := ray(1, 2, 3, 4, 5, 6), ray(1, 2, 3, 4, 5, 6)
			a.Origin[i], b.Along[i] = x, x
			l = append(l, a, b)
		}
	}
	return l
}

// invalidPoints are points with a number that is not canonical.
func invalidPoints() [][3]api.Rat {
	l := [][3]api.Rat{{}}
	for _, x := range notCanonical() {
		for i := range 3 {
			p := whole(1, 2, 3)
			p[i] = x
			l = append(l, p)
		}
	}
	return l
}
