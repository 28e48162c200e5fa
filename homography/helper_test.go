package homography_test

import (
	"math"
	"math/big"
	"math/rand"
	"slices"
	"strings"
	"testing"

	"fiducial/api"
	"fiducial/fraction"
	"fiducial/homography"
	"fiducial/integer"
)

const maxCoord = 1 << 20

// pick is an element of a list.
func pick[T any](r *rand.Rand, l ...T) T { return l[r.Intn(len(l))] }

// some calls check many times.
func some(rounds int, check func(r *rand.Rand)) {
	r := rand.New(rand.NewSource(27))
	for range rounds {
		check(r)
	}
}

// ofBig is the integer with the value of z.
func ofBig(z *big.Int) api.Int {
	x := api.Int{Negative: z.Sign() < 0}
	rest, group, billion := new(big.Int).Abs(z), new(big.Int), big.NewInt(1_000_000_000)
	for rest.Sign() > 0 {
		rest.QuoRem(rest, billion, group)
		x.Groups = append(x.Groups, uint32(group.Int64()))
	}
	return x
}

// ofRat is the canonical fraction with the value of z.
func ofRat(z *big.Rat) api.Rat { return api.Rat{Num: ofBig(z.Num()), Den: ofBig(z.Denom())} }

// bigOf is the value of an integer.
func bigOf(x api.Int) *big.Int {
	z, _ := new(big.Int).SetString(integer.Text(x), 10)
	return z
}

// ratOf is the value of a canonical fraction.
func ratOf(x api.Rat) *big.Rat { return new(big.Rat).SetFrac(bigOf(x.Num), bigOf(x.Den)) }

// the arithmetic of the references.
func rat(n int) *big.Rat         { return new(big.Rat).SetInt64(int64(n)) }
func add(x, y *big.Rat) *big.Rat { return new(big.Rat).Add(x, y) }
func sub(x, y *big.Rat) *big.Rat { return new(big.Rat).Sub(x, y) }
func mul(x, y *big.Rat) *big.Rat { return new(big.Rat).Mul(x, y) }
func quo(x, y *big.Rat) *big.Rat { return new(big.Rat).Quo(x, y) }

// bigs are the values of integers.
func bigs(l ...api.Int) []*big.Rat {
	list := make([]*big.Rat, len(l))
	for i, x := range l {
		list[i] = new(big.Rat).SetInt(bigOf(x))
	}
	return list
}

// canonical are the multiples of some numbers, not all 0, that are reduced: the numbers are divided by the first one that is not 0, and multiplied by the least number that makes all of them integers.
func canonical(l []*big.Rat) []api.Int {
	first := l[slices.IndexFunc(l, func(x *big.Rat) bool { return x.Sign() != 0 })]
	least := big.NewInt(1)
	for _, x := range l {
		den := quo(x, first).Denom()
		least.Mul(least, new(big.Int).Quo(den, new(big.Int).GCD(nil, nil, least, den)))
	}
	list := make([]api.Int, len(l))
	for i, x := range l {
		list[i] = ofBig(mul(quo(x, first), new(big.Rat).SetInt(least)).Num())
	}
	return list
}

// tripleOf and homographyOf are the canonical forms of some numbers.
func tripleOf(l []*big.Rat) api.Triple         { return api.Triple(canonical(l)) }
func homographyOf(l []*big.Rat) api.Homography { return api.Homography(canonical(l)) }

// triple and nine have integers, as they are.
func triple(l ...int) api.Triple   { return api.Triple(ints(l)) }
func nine(l ...int) api.Homography { return api.Homography(ints(l)) }

// ints are some integers.
func ints(l []int) []api.Int {
	list := make([]api.Int, len(l))
	for i, n := range l {
		list[i] = integer.Of(n)
	}
	return list
}

// text has the texts of some integers; what is not canonical is marked.
func text(l ...api.Int) string {
	var s []string
	for _, x := range l {
		if !integer.Valid(x) {
			s = append(s, "?")
			continue
		}
		s = append(s, integer.Text(x))
	}
	return strings.Join(s, " ")
}

// ratText has the texts of some fractions; what is not canonical is marked.
func ratText(l ...api.Rat) string {
	var s []string
	for _, x := range l {
		if !fraction.Valid(x) {
			s = append(s, "?")
			continue
		}
		s = append(s, fraction.Text(x))
	}
	return strings.Join(s, " ")
}

// number is a number of one of several sizes; many are 0 or 1.
func number(r *rand.Rand) *big.Rat {
	long := func(bits int) *big.Int {
		n := new(big.Int).Rand(r, new(big.Int).Lsh(big.NewInt(1), uint(bits)))
		return n.Sub(n, new(big.Int).Rsh(n, 1))
	}
	switch r.Intn(20) {
	case 0:
		return new(big.Rat).SetInt(long(200))
	case 1:
		return new(big.Rat).SetFrac(long(100), new(big.Int).Add(long(100), big.NewInt(1)))
	case 2, 3:
		return big.NewRat(int64(r.Intn(1<<21)-1<<20), int64(1+r.Intn(1<<20)))
	case 4, 5, 6:
		return big.NewRat(int64(r.Intn(21)-10), int64(1+r.Intn(6)))
	}
	return rat(r.Intn(7) - 3)
}

// numbers are n numbers, not all 0.
func numbers(r *rand.Rand, n int) []*big.Rat {
	for {
		l := make([]*big.Rat, n)
		isZero := true
		for i := range l {
			l[i] = number(r)
			isZero = isZero && l[i].Sign() == 0
		}
		if !isZero {
			return l
		}
	}
}

// random is a point or line.
func random(r *rand.Rand) api.Triple { return tripleOf(numbers(r, 3)) }

// matrix are nine numbers with a determinant other than 0.
func matrix(r *rand.Rand) []*big.Rat {
	for {
		if l := numbers(r, 9); determinant(l).Sign() != 0 {
			if r.Intn(5) == 0 {
				l[6], l[7] = rat(0), rat(0)
				if determinant(l).Sign() == 0 {
					continue
				}
			}
			return l
		}
	}
}

// randomMap is a homography.
func randomMap(r *rand.Rand) api.Homography { return homographyOf(matrix(r)) }

// determinant is that of nine numbers, by the rule of Sarrus.
func determinant(l []*big.Rat) *big.Rat {
	sum := rat(0)
	for j := range 3 {
		down := mul(mul(l[j], l[3+(j+1)%3]), l[6+(j+2)%3])
		up := mul(mul(l[6+j], l[3+(j+1)%3]), l[(j+2)%3])
		sum = add(sum, sub(down, up))
	}
	return sum
}

// dot is the inner product.
func dot(v, w []*big.Rat) *big.Rat {
	sum := rat(0)
	for i, x := range v {
		sum = add(sum, mul(x, w[i]))
	}
	return sum
}

// times is the product of nine numbers and three.
func times(h, p []*big.Rat) []*big.Rat {
	return []*big.Rat{dot(h[:3], p), dot(h[3:6], p), dot(h[6:], p)}
}

// solve is the vector that a matrix with a determinant other than 0 takes to p, by Cramer's rule.
func solve(h, p []*big.Rat) []*big.Rat {
	x := make([]*big.Rat, 3)
	for k := range x {
		replaced := slices.Clone(h)
		for i := range p {
			replaced[3*i+k] = p[i]
		}
		x[k] = quo(determinant(replaced), determinant(h))
	}
	return x
}

// notInts are values that are no canonical integers.
func notInts() []api.Int {
	return []api.Int{{Negative: true}, {Groups: []uint32{0}}, {Groups: []uint32{5, 0}}, {Groups: []uint32{1_000_000_000}}, {Groups: []uint32{1, 4_000_000_000}}}
}

// notRats are values that are no fractions.
func notRats() []api.Rat {
	return []api.Rat{
		{},
		{Num: integer.Of(1)},
		{Num: integer.Of(2), Den: integer.Of(6)},
		{Num: integer.Of(1), Den: integer.Of(-1)},
		{Num: api.Int{Groups: []uint32{5, 0}}, Den: integer.Of(1)},
		{Num: api.Int{Groups: []uint32{1_000_000_000}}, Den: integer.Of(1)},
		{Num: api.Int{Negative: true}, Den: integer.Of(1)},
		{Den: integer.Of(2)},
	}
}

// invalidTriples are neither points nor lines.
func invalidTriples() []api.Triple {
	l := []api.Triple{{}, triple(2, 0, 0), triple(0, 0, 5), triple(2, 4, -6), triple(-1, 2, 3), triple(0, -1, 0), triple(0, 0, -1), triple(-3, -6, 9), triple(0, 6, 9)}
	for _, x := range notInts() {
		for i := range 3 {
			p := triple(1, 2, 3)
			p[i] = x
			l = append(l, p)
		}
	}
	return append(l, api.Triple{integer.Of(1), {Groups: []uint32{0}}, integer.Of(1)})
}

// invalidMaps are no homographies.
func invalidMaps() []api.Homography {
	l := []api.Homography{
		{},
		nine(2, 0, 0, 0, 2, 0, 0, 0, 2),
		nine(-1, 0, 0, 0, 1, 0, 0, 0, 1),
		nine(0, 0, -1, 0, 1, 0, 1, 0, 0),
		nine(1, 2, 3, 4, 5, 6, 7, 8, 9),
		nine(1, 0, 0, 0, 1, 0, 0, 0, 0),
		nine(0, 0, 0, 0, 0, 1, 0, 0, 0),
		nine(1, 1, 1, 1, 1, 1, 1, 1, 1),
		nine(3, 0, 0, 0, 6, 0, 0, 9, 12),
	}
	for _, x := range notInts() {
		for i := range 9 {
			h := nine(2, 1, 0, 1, 5, 3, 4, 6, 1)
			h[i] = x
			l = append(l, h)
		}
	}
	return l
}

// invalidRasters are no rasters.
func invalidRasters() []api.Raster {
	many := make([]int, 65)
	return []api.Raster{
		{},
		{Width: 1, Height: 1, Max: 0, Pixels: []int{0}},
		{Width: 1, Height: 1, Max: 65536, Pixels: []int{0}},
		{Width: 1, Height: 1, Max: 5, Pixels: []int{6}},
		{Width: 1, Height: 1, Max: 5, Pixels: []int{-1}},
		{Width: 2, Height: 1, Max: 5, Pixels: []int{1}},
		{Width: 1, Height: 1, Max: 5, Pixels: []int{1, 1}},
		{Width: 65, Height: 1, Max: 5, Pixels: many},
		{Width: 1, Height: 65, Max: 5, Pixels: many},
		{Width: 0, Height: 1, Max: 5},
		{Width: -1, Height: -1, Max: 5, Pixels: []int{0}},
	}
}

// outside are numbers that are no coordinates.
func outside() []int { return []int{-maxCoord - 1, maxCoord + 1, math.MinInt, math.MaxInt} }

// outsidePairs are pairs with a coordinate that is out of its range.
func outsidePairs() []api.Pair {
	var l []api.Pair
	for _, x := range outside() {
		l = append(l, api.Pair{From: api.Pix{X: x}}, api.Pair{From: api.Pix{Y: x}}, api.Pair{To: api.Pix{X: x}}, api.Pair{To: api.Pix{Y: x}})
	}
	return l
}

// pair has the points (a, b) and (c, d).
func pair(a, b, c, d int) api.Pair {
	return api.Pair{From: api.Pix{X: a, Y: b}, To: api.Pix{X: c, Y: d}}
}

// isBlank reports whether all integers are the zero value.
func isBlank(l ...api.Int) bool {
	return !slices.ContainsFunc(l, func(x api.Int) bool { return x.Negative || len(x.Groups) > 0 })
}

// flat are the numbers of some fractions.
func flat(l ...api.Rat) []api.Int {
	var list []api.Int
	for _, x := range l {
		list = append(list, x.Num, x.Den)
	}
	return list
}

// equal fails the test unless numbers have the values that are wanted.
func equal(t *testing.T, what string, got []api.Int, code api.Code, want []api.Int) {
	t.Helper()
	if code != api.OK || text(got...) != text(want...) {
		t.Fatalf("%s = %s, %d, want %s", what, text(got...), code, text(want...))
	}
}

// refused fails the test unless there is a code, and nothing else.
func refused(t *testing.T, what string, got []api.Int, code, want api.Code) {
	t.Helper()
	if code != want || !isBlank(got...) {
		t.Errorf("%s = %s, %d, want %d", what, text(got...), code, want)
	}
}

// apply is the image of a point, which must exist.
func apply(t *testing.T, h api.Homography, p api.Triple) api.Triple {
	t.Helper()
	q, code := homography.Apply(h, p)
	if code != api.OK {
		t.Fatalf("Apply(%s, %s): %d", text(h[:]...), text(p[:]...), code)
	}
	return q
}

// overwrite changes all that an integer shows of its memory, and what an append would write behind it.
func overwrite(l ...api.Int) {
	for _, x := range l {
		for i := range x.Groups {
			x.Groups[i] = 987654321
		}
		_ = append(x.Groups, 987654321)
	}
}
