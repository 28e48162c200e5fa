package camera_test

import (
	"math"
	"math/big"
	"math/rand"
	"slices"
	"testing"

	"fiducial/api"
	"fiducial/camera"
	"fiducial/fraction"
	"fiducial/integer"
)

// unit is what a distortion number is divided by.
const unit = 1 << 20

// pick is an element of a list.
func pick[T any](r *rand.Rand, l ...T) T { return l[r.Intn(len(l))] }

// some calls check many times.
func some(rounds int, check func(r *rand.Rand)) {
	r := rand.New(rand.NewSource(17))
	for range rounds {
		check(r)
	}
}

// bigRat is the fraction with a text.
func bigRat(s string) *big.Rat {
	z, ok := new(big.Rat).SetString(s)
	if !ok {
		panic(s + " is no fraction")
	}
	return z
}

// bigOf is the value of x; what is not canonical has none.
func bigOf(t *testing.T, x api.Rat) *big.Rat {
	t.Helper()
	if !fraction.Valid(x) {
		t.Fatalf("%v is not canonical", x)
	}
	return bigRat(integer.Text(x.Num) + "/" + integer.Text(x.Den))
}

// ofBig is the canonical fraction with the value of z.
func ofBig(z *big.Rat) api.Rat {
	num, _ := integer.Parse(z.Num().String())
	den, _ := integer.Parse(z.Denom().String())
	x, _ := fraction.New(num, den)
	return x
}

// the arithmetic of the references.
func add(x, y *big.Rat) *big.Rat { return new(big.Rat).Add(x, y) }
func sub(x, y *big.Rat) *big.Rat { return new(big.Rat).Sub(x, y) }
func mul(x, y *big.Rat) *big.Rat { return new(big.Rat).Mul(x, y) }
func quo(x, y *big.Rat) *big.Rat { return new(big.Rat).Quo(x, y) }

// power2 is 2 to the power -k.
func power2(k int) *big.Rat {
	return new(big.Rat).SetFrac(big.NewInt(1), new(big.Int).Lsh(big.NewInt(1), uint(k)))
}

// point is a point in the references.
type point struct{ x, y *big.Rat }

// at is the point with the texts of its coordinates.
func at(x, y string) point { return point{bigRat(x), bigRat(y)} }

// place is the point as an argument.
func (p point) place() api.Place { return api.Place{X: ofBig(p.x), Y: ofBig(p.y)} }

// pointOf is the value of a place.
func pointOf(t *testing.T, p api.Place) point {
	t.Helper()
	return point{bigOf(t, p.X), bigOf(t, p.Y)}
}

func (p point) String() string { return "(" + p.x.RatString() + ", " + p.y.RatString() + ")" }

// less is p - q.
func (p point) less(q point) point { return point{sub(p.x, q.x), sub(p.y, q.y)} }

// times is k p.
func (p point) times(k *big.Rat) point { return point{mul(k, p.x), mul(k, p.y)} }

// dot is the inner product.
func (p point) dot(q point) *big.Rat { return add(mul(p.x, q.x), mul(p.y, q.y)) }

// same reports whether two points are equal.
func (p point) same(q point) bool { return p.x.Cmp(q.x) == 0 && p.y.Cmp(q.y) == 0 }

// isZero reports whether x is the zero value.
func isZero(x ...api.Rat) bool {
	return !slices.ContainsFunc(x, func(x api.Rat) bool {
		return x.Num.Negative || x.Den.Negative || len(x.Num.Groups) > 0 || len(x.Den.Groups) > 0
	})
}

// notCanonical are values that are no fractions.
func notCanonical() []api.Rat {
	return []api.Rat{
		{},
		{Num: integer.Of(1)},
		{Num: integer.Of(2), Den: integer.Of(6)},
		{Num: integer.Of(1), Den: integer.Of(-1)},
		{Num: api.Int{Groups: []uint32{5, 0}}, Den: integer.Of(1)},
		{Num: api.Int{Groups: []uint32{1_000_000_000}}, Den: integer.Of(1)},
		{Num: api.Int{Negative: true}, Den: integer.Of(1)},
	}
}

// overwrite changes all that places show of their memory.
func overwrite(l ...api.Place) {
	for _, p := range l {
		for _, n := range []api.Int{p.X.Num, p.X.Den, p.Y.Num, p.Y.Den} {
			for i := range n.Groups {
				n.Groups[i] = 77
			}
		}
	}
}

// far are numbers that no field of a lens may have.
func far() []int {
	return []int{math.MinInt, math.MinInt + 1, math.MaxInt, math.MaxInt - 1, unit + 1, -unit - 1, 1 << 32, -1 << 32, 1 << 62, -1 << 62}
}

// plain is a lens without distortion, with a field of the radius 1.
func plain() api.Lens { return api.Lens{Focal: 64, Field: 64} }

// invalid are values that are no lenses.
func invalid() []api.Lens {
	l := []api.Lens{{}, {Focal: 1}, {Field: 1}}
	for _, n := range far() {
		for i := range 9 {
			bad := plain()
			*[]*int{&bad.Focal, &bad.Field, &bad.Centre.X, &bad.Centre.Y, &bad.Radial[0], &bad.Radial[1], &bad.Radial[2], &bad.Tangential[0], &bad.Tangential[1]}[i] = n
			l = append(l, bad)
		}
	}
	for _, n := range []int{0, -1, -64} {
		l = append(l, api.Lens{Focal: n, Field: 64}, api.Lens{Focal: 64, Field: n}, api.Lens{Focal: n, Field: n})
	}
	return l
}

// extremes are lenses with the ends of the ranges.
func extremes() []api.Lens {
	l := []api.Lens{{Focal: 1, Field: 1}, {Focal: unit, Field: unit}, {Focal: 1, Field: unit}, {Focal: unit, Field: 1}}
	for _, n := range []int{unit, -unit} {
		for _, lens := range []api.Lens{{Focal: 1, Field: unit}, {Focal: unit, Field: 1}, {Focal: unit, Field: unit}} {
			lens.Centre = api.Pix{X: n, Y: -n}
			lens.Radial = [3]int{n, n, n}
			l = append(l, lens)
			lens.Tangential = [2]int{-n, n}
			l = append(l, lens)
		}
	}
	return l
}

// randomLens is a lens; most have a modulus.
func randomLens(r *rand.Rand) api.Lens {
	number := func(most int) int {
		most = pick(r, most, most, most/8, most/100)
		return pick(r, 0, r.Intn(2*most+1)-most, r.Intn(2*most+1)-most)
	}
	l := api.Lens{Focal: 1 + r.Intn(pick(r, 10, 100, 5000)), Centre: api.Pix{X: r.Intn(9999) - 5000, Y: r.Intn(9999) - 5000}}
	l.Field = 1 + r.Intn(2*l.Focal)
	l.Radial = [3]int{number(unit / 6), number(unit / 10), number(unit / 20)}
	l.Tangential = [2]int{number(unit / 20), number(unit / 20)}
	if r.Intn(10) == 0 {
		l.Focal, l.Field = 1+r.Intn(unit), 1+r.Intn(unit)
		l.Radial = [3]int{number(unit), number(unit), number(unit)}
		l.Tangential = [2]int{number(unit), number(unit)}
	}
	return l
}

// modulus returns the modulus of a lens, and whether it has one.
func modulus(t *testing.T, l api.Lens) (*big.Rat, bool) {
	t.Helper()
	m, code := camera.Modulus(l)
	switch code {
	case api.OK:
		return bigOf(t, m), true
	case api.ErrDegenerate:
		return nil, false
	}
	t.Fatalf("Modulus(%v): %d", l, code)
	return nil, false
}

// radius is the radius of the field of a lens.
func radius(l api.Lens) *big.Rat { return big.NewRat(int64(l.Field), int64(l.Focal)) }

// inField reports whether a point lies in the field.
func inField(l api.Lens, p point) bool {
	return p.dot(p).Cmp(mul(radius(l), radius(l))) <= 0
}

// directions are points at the distance 1 from the centre.
func directions() []point {
	return []point{at("1", "0"), at("-1", "0"), at("0", "1"), at("0", "-1"), at("3/5", "4/5"), at("-4/5", "3/5"), at("5/13", "-12/13"), at("-20/29", "-21/29")}
}

// randomPoint is a point of the field, some at its border and some at the centre.
func randomPoint(r *rand.Rand, l api.Lens) point {
	part := pick(r, big.NewRat(1, 1), big.NewRat(255, 256), new(big.Rat), big.NewRat(int64(r.Intn(1001)), 1000), big.NewRat(int64(r.Intn(1000001)), 1000000))
	return pick(r, directions()...).times(mul(part, radius(l)))
}

// distorted is the point to which a lens maps another one, by the definition.
func distorted(l api.Lens, p point) point {
	number := func(n int) *big.Rat { return big.NewRat(int64(n), unit) }
	u, v, two := p.x, p.y, big.NewRat(2, 1)
	t := p.dot(p)
	factor := big.NewRat(1, 1)
	power := t
	for _, k := range l.Radial {
		factor = add(factor, mul(number(k), power))
		power = mul(power, t)
	}
	p1, p2, uv := number(l.Tangential[0]), number(l.Tangential[1]), mul(two, mul(u, v))
	return point{
		add(mul(u, factor), add(mul(p1, uv), mul(p2, add(t, mul(two, mul(u, u)))))),
		add(mul(v, factor), add(mul(p1, add(t, mul(two, mul(v, v)))), mul(p2, uv))),
	}
}
