package polygon_test

import (
	"cmp"
	"math"
	"math/big"
	"math/rand"
	"slices"
	"strings"
	"testing"

	"fiducial/api"
	"fiducial/fraction"
	"fiducial/integer"
	"fiducial/polygon"
)

// most is the greatest magnitude of a coordinate.
const most = 1 << 20

// pt is a point.
func pt(x, y int) api.Pix {
	return api.Pix{X: x, Y: y}
}

// outside are points that are not in range.
func outside() []api.Pix {
	var l []api.Pix
	for _, x := range []int{most + 1, -most - 1, 1 << 32, 1 << 62, math.MaxInt, math.MinInt} {
		l = append(l, pt(x, 0), pt(0, x), pt(x, x))
	}
	return l
}

// example is the polygon of the first example of the chapter.
func example() []api.Pix {
	return []api.Pix{pt(0, 0), pt(4, 0), pt(4, 4), pt(2, 1), pt(0, 4)}
}

// cross is the determinant of the ways from a to b and from a to c; the coordinates are small or in range.
func cross(a, b, c api.Pix) int {
	return (b.X-a.X)*(c.Y-a.Y) - (c.X-a.X)*(b.Y-a.Y)
}

// sign is -1, 0 or 1.
func sign(x int) int {
	return cmp.Compare(x, 0)
}

// meetings is the number of common points of two segments that have a length, 2 for more than one, from the parameters of the common point of their lines.
func meetings(a, b, c, d api.Pix) int {
	all := cross(pt(0, 0), pt(b.X-a.X, b.Y-a.Y), pt(d.X-c.X, d.Y-c.Y))
	if all == 0 {
		return meetingsOnLine(a, b, c, d)
	}
	way := pt(c.X-a.X, c.Y-a.Y)
	first := cross(pt(0, 0), way, pt(d.X-c.X, d.Y-c.Y)) * sign(all)
	second := cross(pt(0, 0), way, pt(b.X-a.X, b.Y-a.Y)) * sign(all)
	all *= sign(all)
	if 0 <= first && first <= all && 0 <= second && second <= all {
		return 1
	}
	return 0
}

// meetingsOnLine is meetings for parallel segments: those on one line have an interval of positions along it in common.
func meetingsOnLine(a, b, c, d api.Pix) int {
	if cross(a, b, c) != 0 {
		return 0
	}
	along := func(p api.Pix) int { return (p.X-a.X)*(b.X-a.X) + (p.Y-a.Y)*(b.Y-a.Y) }
	low, high := max(0, min(along(c), along(d))), min(along(b), max(along(c), along(d)))
	return 1 + cmp.Compare(high, low)
}

// isSimple is the definition of simple polygons.
func isSimple(p []api.Pix) bool {
	n := len(p)
	for i := range n {
		for k := range n {
			if i == k {
				continue
			}
			if p[i] == p[k] {
				return false
			}
			want := 0
			if (i+1)%n == k || (k+1)%n == i {
				want = 1
			}
			if meetings(p[i], p[(i+1)%n], p[k], p[(k+1)%n]) != want {
				return false
			}
		}
	}
	return n >= 3
}

// doubled is twice the area, from the trapezoids below the edges.
func doubled(p []api.Pix) int {
	sum := 0
	for i, v := range p {
		w := p[(i+1)%len(p)]
		sum += (v.X - w.X) * (v.Y + w.Y)
	}
	return sum
}

// position is 1, 0 or -1: q, which is at most 1000 in magnitude as the vertices are, lies inside, on the border or outside. The ray from q goes so far to the right and so little upwards that it meets no vertex.
func position(p []api.Pix, q api.Pix) int {
	far := pt(q.X+1000000, q.Y+1)
	passed := 0
	for i, v := range p {
		w := p[(i+1)%len(p)]
		if cross(v, w, q) == 0 && (q.X-v.X)*(q.X-w.X) <= 0 && (q.Y-v.Y)*(q.Y-w.Y) <= 0 {
			return 0
		}
		passed += meetings(v, w, q, far)
	}
	return 2*(passed%2) - 1
}

// some calls check many times.
func some(rounds int, check func(r *rand.Rand)) {
	r := rand.New(rand.NewSource(10))
	for range rounds {
		check(r)
	}
}

// points are n points with coordinates from 0 to size - 1.
func points(r *rand.Rand, n, size int) []api.Pix {
	l := make([]api.Pix, n)
	for i := range l {
		l[i] = pt(r.Intn(size), r.Intn(size))
	}
	return l
}

// simple returns a simple polygon with small coordinates, in either direction; many have straight angles.
func simple(r *rand.Rand) []api.Pix {
	for {
		p := points(r, 3+r.Intn(6), 3+r.Intn(5))
		if isSimple(p) {
			if r.Intn(3) == 0 {
				p = refined(r, p)
			}
			return p
		}
	}
}

// refined returns a polygon three times as large, with more vertices on its edges.
func refined(r *rand.Rand, p []api.Pix) []api.Pix {
	var l []api.Pix
	for i, v := range p {
		w := p[(i+1)%len(p)]
		for k := range 3 {
			if k == 0 || r.Intn(2) == 0 {
				l = append(l, pt(3*v.X+k*(w.X-v.X), 3*v.Y+k*(w.Y-v.Y)))
			}
		}
	}
	return turned(r, l)
}

// turned returns a polygon that begins with any vertex of p, in either direction.
func turned(r *rand.Rand, p []api.Pix) []api.Pix {
	k := r.Intn(len(p))
	l := slices.Concat(p[k:], p[:k])
	if r.Intn(2) == 0 {
		slices.Reverse(l)
	}
	return l
}

// star returns a simple polygon with n vertices, of coordinates up to size, around the origin.
func star(r *rand.Rand, n, size int) []api.Pix {
	lower := func(p api.Pix) bool { return p.Y < 0 || p.Y == 0 && p.X < 0 }
	for {
		l := make([]api.Pix, n)
		for i := range l {
			l[i] = pt(r.Intn(2*size+1)-size, r.Intn(2*size+1)-size)
		}
		slices.SortFunc(l, func(a, b api.Pix) int {
			if lower(a) != lower(b) {
				return map[bool]int{false: -1, true: 1}[lower(a)]
			}
			return cmp.Compare(0, cross(pt(0, 0), a, b))
		})
		if isSimple(l) {
			return turned(r, l)
		}
	}
}

// convex returns a convex polygon, in either direction.
func convex(r *rand.Rand, size int) []api.Pix {
	for {
		p := star(r, 3+r.Intn(4), size)
		if isConvex(p) {
			return p
		}
	}
}

// isConvex reports whether no edge of a simple polygon has vertices on both sides.
func isConvex(p []api.Pix) bool {
	for i, v := range p {
		var sides [3]bool
		for _, q := range p {
			sides[1+sign(cross(v, p[(i+1)%len(p)], q))] = true
		}
		if sides[0] && sides[2] {
			return false
		}
	}
	return true
}

// triangleWith returns a triangle with so many vertices that all but one lie on its lower side.
func triangleWith(n int) []api.Pix {
	var l []api.Pix
	for i := range n - 1 {
		l = append(l, pt(i, 0))
	}
	return append(l, pt(0, 9))
}

// whole is n as a number of math/big.
func whole(n int) *big.Rat {
	return big.NewRat(int64(n), 1)
}

// plus, minus and times calculate with numbers of math/big.
func plus(x, y *big.Rat) *big.Rat  { return new(big.Rat).Add(x, y) }
func minus(x, y *big.Rat) *big.Rat { return new(big.Rat).Sub(x, y) }
func times(x, y *big.Rat) *big.Rat { return new(big.Rat).Mul(x, y) }

// vector is a point in the numbers of math/big.
type vector struct{ x, y *big.Rat }

// bigInt is the value of x, which is canonical.
func bigInt(x api.Int) *big.Int {
	z, _ := new(big.Int).SetString(integer.Text(x), 10)
	return z
}

// bigRat is the value of x, which is canonical.
func bigRat(x api.Rat) *big.Rat {
	return new(big.Rat).SetFrac(bigInt(x.Num), bigInt(x.Den))
}

// vectors are the values of some Places.
func vectors(l []api.Place) []vector {
	v := make([]vector, len(l))
	for i, p := range l {
		v[i] = vector{bigRat(p.X), bigRat(p.Y)}
	}
	return v
}

// rat is the fraction with a text.
func rat(s string) api.Rat {
	x, code := fraction.Parse(s)
	if code != api.OK {
		panic(s)
	}
	return x
}

// places are the points with some texts: the coordinates separated by a comma, the points by spaces.
func places(s string) []api.Place {
	var l []api.Place
	for _, point := range strings.Fields(s) {
		x, y, _ := strings.Cut(point, ",")
		l = append(l, api.Place{X: rat(x), Y: rat(y)})
	}
	return l
}

// text is the text of some points; what is not canonical is marked.
func text(l []api.Place) string {
	var s []string
	for _, p := range l {
		if !fraction.Valid(p.X) || !fraction.Valid(p.Y) {
			s = append(s, "?")
			continue
		}
		s = append(s, fraction.Text(p.X)+","+fraction.Text(p.Y))
	}
	return strings.Join(s, " ")
}

// textOf is the text of some points in the numbers of math/big.
func textOf(l []vector) string {
	var s []string
	for _, p := range l {
		s = append(s, p.x.RatString()+","+p.y.RatString())
	}
	return strings.Join(s, " ")
}

// placesOf are some points as Places.
func placesOf(p []api.Pix) []api.Place {
	l := make([]api.Place, len(p))
	for i, v := range p {
		l[i] = api.Place{X: fraction.Whole(v.X), Y: fraction.Whole(v.Y)}
	}
	return l
}

// size is twice the area of some points, from the trapezoids below the edges.
func size(l []vector) *big.Rat {
	sum := whole(0)
	for i, v := range l {
		w := l[(i+1)%len(l)]
		sum = plus(sum, times(minus(v.x, w.x), plus(v.y, w.y)))
	}
	return sum
}

// cut is what lies on the side of a line where a x + b y is at least c.
func cut(l []vector, a, b, c *big.Rat) []vector {
	distance := func(p vector) *big.Rat { return minus(plus(times(a, p.x), times(b, p.y)), c) }
	var part []vector
	for i, v := range l {
		w := l[(i+1)%len(l)]
		from, to := distance(v), distance(w)
		if from.Sign() >= 0 {
			part = append(part, v)
		}
		if from.Sign() > 0 && to.Sign() < 0 || from.Sign() < 0 && to.Sign() > 0 {
			// The mean of the ends, each with the distance of the other one as its weight.
			all := minus(to, from)
			mean := func(x, y *big.Rat) *big.Rat {
				return new(big.Rat).Quo(minus(times(x, to), times(y, from)), all)
			}
			part = append(part, vector{mean(v.x, w.x), mean(v.y, w.y)})
		}
	}
	return part
}

// number returns a fraction; some have long parts.
func number(r *rand.Rand) api.Rat {
	if r.Intn(6) == 0 {
		num, den := integer.Of(r.Int()-1<<62), integer.Of(1+r.Int())
		x, _ := fraction.New(integer.Mul(num, num), integer.Mul(den, integer.Of(1+r.Int())))
		return x
	}
	x, _ := fraction.Of(r.Intn(19)-9, 1+r.Intn(3))
	return x
}

// randomPlace returns a point.
func randomPlace(r *rand.Rand) api.Place {
	return api.Place{X: number(r), Y: number(r)}
}

// randomPlaces returns a list of points, of any form.
func randomPlaces(r *rand.Rand) []api.Place {
	l := make([]api.Place, r.Intn(9))
	for i := range l {
		l[i] = randomPlace(r)
	}
	return l
}

// notCanonical are values that are no fractions.
func notCanonical() []api.Rat {
	return []api.Rat{
		{},
		{Num: integer.Of(1)},
		{Num: integer.Of(2), Den: integer.Of(6)},
		{Num: integer.Of(1), Den: integer.Of(-1)},
		{Num: api.Int{Groups: []uint32{5, 0}}, Den: integer.Of(1)},
		{Num: api.Int{Groups: []uint32{1_000_000_000}}, Den: integer.Of(1)},
		{Num: api.Int{Negative: true}, Den: integer.Of(1)},
	}
}

// isBlank reports whether x is the zero value.
func isBlank(x api.Rat) bool {
	return !x.Num.Negative && !x.Den.Negative && len(x.Num.Groups) == 0 && len(x.Den.Groups) == 0
}

// equal fails the test if got is not canonical or has not the value of want.
func equal(t *testing.T, what string, got api.Rat, want *big.Rat) {
	t.Helper()
	if !fraction.Valid(got) || bigRat(got).Cmp(want) != 0 {
		t.Fatalf("%s = %v, want %s", what, got, want)
	}
}

// spoil overwrites the memory of a number.
func spoil(x api.Rat) {
	for _, groups := range [][]uint32{x.Num.Groups, x.Den.Groups} {
		for i := range groups {
			groups[i] = 987654321
		}
		_ = append(groups, 987654321)
	}
}

// invalid are lists that are no simple polygons, with their codes.
func invalid() map[api.Code][][]api.Pix {
	square := []api.Pix{pt(0, 0), pt(4, 0), pt(4, 4), pt(0, 4)}
	with := func(k int, p api.Pix) []api.Pix {
		l := slices.Clone(square)
		l[k] = p
		return l
	}
	m := map[api.Code][][]api.Pix{
		api.ErrLimit:     {nil, {}, {pt(0, 0)}, {pt(0, 0), pt(4, 0)}, {pt(most+1, 0), pt(most+1, 0)}, triangleWith(65), append(triangleWith(64), pt(most+1, 0)), slices.Repeat([]api.Pix{pt(0, 0)}, 65)},
		api.ErrDuplicate: {with(1, pt(0, 0)), with(2, pt(0, 0)), with(3, pt(0, 0)), with(3, pt(4, 4)), {pt(0, 0), pt(0, 0), pt(most+1, 0)}, slices.Repeat([]api.Pix{pt(0, 0)}, 3), {pt(0, 0), pt(4, 4), pt(4, 0), pt(0, 4), pt(0, 0)}},
		api.ErrRange:     {{pt(most+1, 0), pt(most+1, 0), pt(0, 0)}, {pt(0, 0), pt(most+1, 0), pt(0, 0)}, {pt(0, 0), pt(4, 4), pt(4, 0), pt(0, most+1)}},
		api.ErrState: {
			{pt(0, 0), pt(4, 4), pt(4, 0), pt(0, 4)},                     // two edges cross
			{pt(0, 0), pt(2, 0), pt(4, 0)},                               // all on a line
			{pt(0, 0), pt(4, 0), pt(4, 4), pt(2, 0), pt(0, 4)},           // a vertex on an edge
			{pt(0, 0), pt(4, 0), pt(2, 0), pt(2, 4)},                     // neighbours overlap
			{pt(2, 4), pt(0, 0), pt(4, 0), pt(2, 0)},                     // neighbours overlap
			{pt(4, 0), pt(2, 0), pt(2, 4), pt(0, 0)},                     // the last edge and the first one overlap
			{pt(0, 0), pt(6, 0), pt(6, 4), pt(4, 0), pt(2, 0), pt(0, 4)}, // edges overlap that are no neighbours
		},
	}
	for _, p := range outside() {
		for k := range square {
			m[api.ErrRange] = append(m[api.ErrRange], with(k, p))
		}
	}
	return m
}

// mustEars returns the triangulation of a simple polygon.
func mustEars(t *testing.T, p []api.Pix) [][3]int {
	t.Helper()
	l, code := polygon.Ears(p)
	if code != api.OK {
		t.Fatalf("Ears(%v): %d", p, code)
	}
	return l
}
