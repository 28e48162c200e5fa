package shutter_test

import (
	"math"
	"math/big"
	"math/rand"
	"slices"
	"strings"

	"fiducial/api"
	"fiducial/fraction"
	"fiducial/integer"
	"fiducial/shutter"
)

// The limits.
const (
	maxTime  = 1 << 30
	maxPart  = 1 << 15
	maxCoord = 1 << 20
	maxFocal = 1 << 20
)

// pick is an element of a list.
func pick[T any](r *rand.Rand, l ...T) T { return l[r.Intn(len(l))] }

// some calls check many times.
func some(rounds int, check func(r *rand.Rand)) {
	r := rand.New(rand.NewSource(19))
	for range rounds {
		check(r)
	}
}

// far are numbers that are beyond all limits.
func far() []int {
	return []int{math.MinInt, math.MinInt + 1, math.MaxInt, math.MaxInt - 1, maxTime + 1, -maxTime - 1, 1 << 32, -1 << 32, 1 << 62, -1 << 62}
}

// notCanonical are values that are no fractions.
func notCanonical() []api.Rat {
	return []api.Rat{
		{},
		{Num: integer.Of(1)},
		{Num: integer.Of(2), Den: integer.Of(6)},
		{Num: integer.Of(1), Den: integer.Of(-1)},
		{Num: api.Int{Groups: []uint32{5, 0}}, Den: integer.Of(1)},
		{Num: api.Int{Groups: []uint32{1_000_000_000}}, Den: integer.Of(1)},
		{Num: api.Int{Negative: true}, Den: integer.Of(1)},
	}
}

// isZero reports whether all fractions are the zero value.
func isZero(l ...api.Rat) bool {
	return !slices.ContainsFunc(l, func(x api.Rat) bool {
		return x.Num.Negative || x.Den.Negative || len(x.Num.Groups) > 0 || len(x.Den.Groups) > 0
	})
}

// text has the texts of some fractions; what is not canonical is marked.
func text(l ...api.Rat) string {
	var s []string
	for _, x := range l {
		if !fraction.Valid(x) {
			s = append(s, "?")
			continue
		}
		s = append(s, fraction.Text(x))
	}
	return strings.Join(s, " ")
}

// placeText has the texts of the coordinates of a place.
func placeText(p api.Place) string { return text(p.X, p.Y) }

// ofBig is the canonical fraction with the value of z.
func ofBig(z *big.Rat) api.Rat {
	num, _ := integer.Parse(z.Num().String())
	den, _ := integer.Parse(z.Denom().String())
	x, _ := fraction.New(num, den)
	return x
}

// bigOf is the value of a canonical fraction.
func bigOf(x api.Rat) *big.Rat {
	z, _ := new(big.Rat).SetString(integer.Text(x.Num) + "/" + integer.Text(x.Den))
	return z
}

// place is the place with the texts of its coordinates.
func place(x, y string) api.Place {
	a, ok := new(big.Rat).SetString(x)
	b, fine := new(big.Rat).SetString(y)
	if !ok || !fine {
		panic(x + " " + y + " is no place")
	}
	return api.Place{X: ofBig(a), Y: ofBig(b)}
}

// placeOf is an image point as a place.
func placeOf(at api.Pix) api.Place {
	return api.Place{X: fraction.Whole(at.X), Y: fraction.Whole(at.Y)}
}

// the arithmetic of the references.
func rat(n int) *big.Rat           { return new(big.Rat).SetInt64(int64(n)) }
func add(x, y *big.Rat) *big.Rat   { return new(big.Rat).Add(x, y) }
func sub(x, y *big.Rat) *big.Rat   { return new(big.Rat).Sub(x, y) }
func mul(x, y *big.Rat) *big.Rat   { return new(big.Rat).Mul(x, y) }
func quo(x, y *big.Rat) *big.Rat   { return new(big.Rat).Quo(x, y) }
func floor(x *big.Rat) *big.Int    { return new(big.Int).Div(x.Num(), x.Denom()) }
func quat(a, b, c, d int) api.Quat { return api.Quat{A: a, B: b, C: c, D: d} }

// number is a quaternion in the references, or a vector, whose first part is 0.
type number [4]*big.Rat

// ofQuat is the number of a quaternion.
func ofQuat(q api.Quat) number { return number{rat(q.A), rat(q.B), rat(q.C), rat(q.D)} }

// ofSpot is the number of a point.
func ofSpot(p api.Spot) number { return number{rat(0), rat(p.X), rat(p.Y), rat(p.Z)} }

// plus is x + k y.
func (x number) plus(k *big.Rat, y number) number {
	var z number
	for i := range z {
		z[i] = add(x[i], mul(k, y[i]))
	}
	return z
}

// times is Hamilton's product.
func (x number) times(y number) number {
	product := func(i, j, k, l int, s [4]int) *big.Rat {
		sum := new(big.Rat)
		for n, m := range [4]int{i, j, k, l} {
			sum.Add(sum, mul(rat(s[n]), mul(x[n], y[m])))
		}
		return sum
	}
	return number{
		product(0, 1, 2, 3, [4]int{1, -1, -1, -1}),
		product(1, 0, 3, 2, [4]int{1, 1, 1, -1}),
		product(2, 3, 0, 1, [4]int{1, -1, 1, 1}),
		product(3, 2, 1, 0, [4]int{1, 1, -1, 1}),
	}
}

// conj is the conjugate.
func (x number) conj() number {
	return number{x[0], sub(rat(0), x[1]), sub(rat(0), x[2]), sub(rat(0), x[3])}
}

// isNull reports whether all parts are 0.
func (x number) isNull() bool {
	return !slices.ContainsFunc(x[:], func(z *big.Rat) bool { return z.Sign() != 0 })
}

// state is a pose in the references.
type state struct {
	at   number
	turn number
}

// timeOf is the time of a row.
func timeOf(s api.Shutter, row int) *big.Rat { return add(rat(s.First), mul(rat(row), rat(s.Step))) }

// stateOf is the pose of a row; the parts of the rotation are integers, all of them 0 or without a common divisor.
func stateOf(s api.Shutter, row int) state {
	passed, left := sub(timeOf(s, row), rat(s.A.Time)), sub(rat(s.B.Time), timeOf(s, row))
	f := quo(passed, add(passed, left))
	at := ofSpot(s.A.At).plus(f, ofSpot(s.B.At).plus(rat(-1), ofSpot(s.A.At)))
	turn := number{rat(0), rat(0), rat(0), rat(0)}.plus(left, ofQuat(s.A.Turn)).plus(passed, ofQuat(s.B.Turn))
	divisor := new(big.Int)
	for _, z := range turn {
		divisor.GCD(nil, nil, divisor, new(big.Int).Abs(z.Num()))
	}
	if divisor.Sign() > 0 {
		for i := range turn {
			turn[i] = quo(turn[i], new(big.Rat).SetInt(divisor))
		}
	}
	return state{at, turn}
}

// sight is the direction of an image point in the frame of the object: the matrix of q takes v to q v q'.
func (p state) sight(c shutter.Camera, at api.Pix) number {
	v := number{rat(0), rat(at.X - c.Centre.X), rat(at.Y - c.Centre.Y), rat(c.Focal)}
	return p.turn.times(v).times(p.turn.conj())
}

// seen is the vector from the camera to a point, in the frame of the camera.
func (p state) seen(ground api.Place, height int) number {
	v := number{rat(0), bigOf(ground.X), bigOf(ground.Y), rat(height)}.plus(rat(-1), p.at)
	return p.turn.conj().times(v).times(p.turn)
}

// groundOf is what Ground returns, by the definitions.
func groundOf(s api.Shutter, c shutter.Camera, at api.Pix, height int) (api.Place, api.Code) {
	p := stateOf(s, int(math.Floor(float64(at.Y)/64)))
	if p.turn.isNull() {
		return api.Place{}, api.ErrDegenerate
	}
	v := p.sight(c, at)
	if v[3].Sign() == 0 {
		return api.Place{}, api.ErrDegenerate
	}
	k := quo(sub(rat(height), p.at[3]), v[3])
	point := p.at.plus(k, v)
	ground := api.Place{X: ofBig(point[1]), Y: ofBig(point[2])}
	if p.seen(ground, height)[3].Sign() <= 0 {
		return api.Place{}, api.ErrBehind
	}
	return ground, api.OK
}

// imageOf is what Image returns, by the definitions.
func imageOf(s api.Shutter, c shutter.Camera, row int, ground api.Place, height int) (api.Place, api.Code) {
	p := stateOf(s, row)
	if p.turn.isNull() {
		return api.Place{}, api.ErrDegenerate
	}
	d := p.seen(ground, height)
	if d[3].Sign() <= 0 {
		return api.Place{}, api.ErrBehind
	}
	x := add(rat(c.Centre.X), quo(mul(rat(c.Focal), d[1]), d[3]))
	y := add(rat(c.Centre.Y), quo(mul(rat(c.Focal), d[2]), d[3]))
	return api.Place{X: ofBig(x), Y: ofBig(y)}, api.OK
}

// correctOf is what Correct returns, by the definitions.
func correctOf(s api.Shutter, c shutter.Camera, at api.Pix, row, height int) (api.Place, api.Code) {
	ground, code := groundOf(s, c, at, height)
	if code != api.OK {
		return api.Place{}, code
	}
	return imageOf(s, c, row, ground, height)
}

// rowsOf is what Rows returns, by the definitions.
func rowsOf(s api.Shutter, c shutter.Camera, rows int, ground api.Place, height int) []int {
	var l []int
	for row := range rows {
		p, code := imageOf(s, c, row, ground, height)
		if code == api.OK && floor(quo(bigOf(p.Y), rat(64))).Cmp(big.NewInt(int64(row))) == 0 {
			l = append(l, row)
		}
	}
	return l
}

// checkOf is what Check returns for a shutter whose numbers are in their ranges, and which has no quaternion that is zero.
func checkOf(s api.Shutter, rows int) api.Code {
	for row := range rows {
		if stateOf(s, row).turn.isNull() {
			return api.ErrDegenerate
		}
	}
	return api.OK
}

// call has the arguments of all functions.
type call struct {
	s      api.Shutter
	c      shutter.Camera
	at     api.Pix
	row    int
	rows   int
	ground api.Place
	height int
}

// example is the call of the chapter's examples.
func example() call {
	turn := quat(0, 1, 0, 0)
	return call{
		s:      api.Shutter{Step: 10, A: api.Epoch{At: api.Spot{Z: 1000}, Turn: turn}, B: api.Epoch{Time: 100, At: api.Spot{X: 100, Z: 1000}, Turn: turn}},
		c:      shutter.Camera{Focal: 640},
		at:     api.Pix{X: 64, Y: 128},
		row:    0,
		rows:   64,
		ground: place("120", "-200"),
	}
}

// upTo is a number up to a magnitude; many are small or at an end.
func upTo(r *rand.Rand, most int) int {
	return pick(r, 0, 1, -1, most, -most, r.Intn(9)-4, r.Intn(2*most+1)-most, r.Intn(2*most+1)-most, r.Intn(min(2*most+1, 2001))-min(most, 1000))
}

// spot is a point.
func spot(r *rand.Rand) api.Spot {
	return api.Spot{X: upTo(r, maxCoord), Y: upTo(r, maxCoord), Z: upTo(r, maxCoord)}
}

// small is a quaternion with small parts that is not zero; many look down.
func small(r *rand.Rand) api.Quat {
	part := func() int { return r.Intn(9) - 4 }
	if q := quat(part()/2, part()/2, part()/2, part()/2); q != (api.Quat{}) && r.Intn(2) == 0 {
		return q
	}
	return quat(part(), 95+part(), part(), part())
}

// turn is a quaternion that is not zero.
func turn(r *rand.Rand) api.Quat {
	if q := quat(upTo(r, maxPart), upTo(r, maxPart), upTo(r, maxPart), upTo(r, maxPart)); q != (api.Quat{}) && r.Intn(3) == 0 {
		return q
	}
	return small(r)
}

// times is q with all parts multiplied.
func times(k int, q api.Quat) api.Quat { return quat(k*q.A, k*q.B, k*q.C, k*q.D) }

// moving is a shutter. In most, the rows lie near the epochs, which do not differ much.
func moving(r *rand.Rand) api.Shutter {
	if r.Intn(3) == 0 {
		s := api.Shutter{First: upTo(r, maxTime), Step: upTo(r, maxTime), A: api.Epoch{Time: upTo(r, maxTime), At: spot(r), Turn: turn(r)}, B: api.Epoch{Time: upTo(r, maxTime), At: spot(r), Turn: turn(r)}}
		for s.B.Time == s.A.Time {
			s.B.Time = upTo(r, maxTime)
		}
		s.A.Time, s.B.Time = min(s.A.Time, s.B.Time), max(s.A.Time, s.B.Time)
		return s
	}
	near := func(n, most int) int { return n + r.Intn(2*most+1) - most }
	s := api.Shutter{First: r.Intn(100), Step: r.Intn(20)}
	s.A = api.Epoch{Time: r.Intn(100), At: api.Spot{X: near(0, 1000), Y: near(0, 1000), Z: 500 + r.Intn(5000)}, Turn: small(r)}
	s.B = api.Epoch{Time: 100 + r.Intn(1000), At: api.Spot{X: near(s.A.At.X, 100), Y: near(s.A.At.Y, 100), Z: near(s.A.At.Z, 10)}, Turn: s.A.Turn}
	if q := quat(near(s.A.Turn.A, 1), s.A.Turn.B, s.A.Turn.C, near(s.A.Turn.D, 1)); q != (api.Quat{}) {
		s.B.Turn = q
	}
	return s
}

// stopped is a shutter whose rotation is zero in a row: both quaternions are multiples of one.
func stopped(r *rand.Rand, row int) api.Shutter {
	s := moving(r)
	s.First, s.Step = r.Intn(2000)-1000, r.Intn(200)-100
	q := small(r)
	a, b := pick(r, 1, 2, 3, -1, -2), pick(r, 4, 5, -4, -5)
	s.A.Turn, s.B.Turn = times(a, q), times(b, q)
	k := 1 + r.Intn(50)
	if b < a {
		k = -k
	}
	time := s.First + row*s.Step
	s.A.Time, s.B.Time = time+k*a, time+k*b
	return s
}

// anyCall is a call with numbers in their ranges. Often the plane lies below the platform, and the point of the ground near what is seen.
func anyCall(r *rand.Rand) call {
	n := call{s: moving(r), row: r.Intn(64), rows: 1 + r.Intn(64)}
	n.c = shutter.Camera{Focal: pick(r, 1, 640, 5000, maxFocal, 1+r.Intn(maxFocal)), Centre: api.Pix{X: upTo(r, maxCoord), Y: pick(r, upTo(r, maxCoord), 2048, r.Intn(4096))}}
	n.at = api.Pix{X: upTo(r, maxCoord), Y: pick(r, 0, 4095, 64*r.Intn(64), r.Intn(4096))}
	if r.Intn(10) == 0 {
		n.s = stopped(r, pick(r, n.row, n.at.Y/64, r.Intn(64)))
	}
	n.height = pick(r, 0, 0, 0, upTo(r, maxCoord), n.s.A.At.Z)
	n.ground = api.Place{X: ofBig(big.NewRat(int64(upTo(r, maxCoord)), int64(1+r.Intn(50)))), Y: ofBig(big.NewRat(int64(upTo(r, maxCoord)), int64(1+r.Intn(50))))}
	if ground, code := groundOf(n.s, n.c, n.at, n.height); code == api.OK && r.Intn(3) > 0 {
		n.ground = ground
	}
	return n
}
