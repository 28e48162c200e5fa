package camera_test

import (
	"math"
	"math/big"
	"math/rand"
	"testing"

	"fiducial/api"
	"fiducial/camera"
	"fiducial/integer"
)

// wantUndistort fails the test unless Undistort of a point to which a is mapped returns a point of the field that is mapped near it, and is near a; CheckUndistort has to accept it.
func wantUndistort(t *testing.T, l api.Lens, a point, k int, least *big.Rat) {
	t.Helper()
	p := distorted(l, a)
	arg := p.place()
	place, x, code := camera.Undistort(l, arg, k)
	if code != api.OK {
		t.Fatalf("Undistort(%v, D%v, %d): %d", l, a, k, code)
	}
	u, distance, limit := pointOf(t, place), bigOf(t, x), power2(2*k)
	if d := distorted(l, u).less(p); !inField(l, u) || distance.Cmp(d.dot(d)) != 0 || distance.Cmp(limit) > 0 {
		t.Fatalf("Undistort(%v, D%v, %d) = %v, %s", l, a, k, u, distance)
	}
	if code := camera.CheckUndistort(l, arg, place, k); code != api.OK {
		t.Fatalf("CheckUndistort(%v, D%v, %v, %d): %d", l, a, u, k, code)
	}
	if d := u.less(a); d.dot(d).Cmp(quo(limit, mul(least, least))) > 0 {
		t.Fatalf("Undistort(%v, D%v, %d) = %v is too far away", l, a, k, u)
	}
	overwrite(place, api.Place{X: x, Y: x})
	if !pointOf(t, arg).same(p) {
		t.Fatalf("Undistort of %v has changed it or shares memory with it", p)
	}
}

// P17.6, P17.7: the inverse of points of the field is found, up to 255/256 of its radius at least.
func TestUndistort(t *testing.T) {
	found := 0
	some(400, func(r *rand.Rand) {
		l := randomLens(r)
		least, ok := modulus(t, l)
		if !ok {
			return
		}
		found++
		a := randomPoint(r, l)
		if a.dot(a).Cmp(mul(radius(l), mul(radius(l), big.NewRat(255*255, 256*256)))) > 0 {
			a = a.times(big.NewRat(255, 256))
		}
		wantUndistort(t, l, a, pick(r, 1, 2, 10, 59, 60, 1+r.Intn(60)), least)
	})
	if found < 200 {
		t.Errorf("%d lenses have a modulus", found)
	}
}

// P17.6, P17.7: lenses with the greatest and the least numbers, of which the distortion stretches points the most.
func TestUndistortExtremes(t *testing.T) {
	l := extremes()
	for _, tangential := range []int{1, 1000, 1 << 14} {
		l = append(l, api.Lens{Focal: 1, Field: unit, Radial: [3]int{unit, unit, unit}, Tangential: [2]int{tangential, -tangential}})
	}
	// The least modulus, at the end of the field, and within it: M = 1 - 3 a t + 5 b t^2 is least at t = 3 a / 10 b.
	l = append(l, api.Lens{Focal: 64, Field: 64, Radial: [3]int{-85*unit/256 + 1, 0, 0}}, api.Lens{Focal: 64, Field: 640, Radial: [3]int{-unit / 4, 118425 * unit / 4194304, 0}})
	// The distortion stretches points the most within the field: M = 1 + 3 t - 5 a t^2.
	l = append(l, api.Lens{Focal: 64, Field: 512, Radial: [3]int{unit, -9856, 0}}, api.Lens{Focal: 10, Field: 4579, Radial: [3]int{unit, -3, 0}})
	l = append(l, api.Lens{Focal: 64, Field: 64, Tangential: [2]int{unit/6 - 1000, 0}}, api.Lens{Focal: 64, Field: 64, Tangential: [2]int{-unit / 9, unit / 9}})
	for _, lens := range l {
		least, ok := modulus(t, lens)
		if !ok {
			continue
		}
		for i, part := range []*big.Rat{new(big.Rat), big.NewRat(1, 1000003), big.NewRat(1, 3), big.NewRat(255, 256)} {
			for k, e := range directions() {
				if (i+k)%3 == 0 {
					wantUndistort(t, lens, e.times(mul(part, radius(lens))), pick(rand.New(rand.NewSource(int64(k))), 1, 30, 60), least)
				}
			}
		}
	}
}

// P17.6: the centre, and points on the way to which the direction of the search vanishes: p = t w, w = (p2, p1).
func TestUndistortCentre(t *testing.T) {
	l := api.Lens{Focal: 64, Field: 64, Radial: [3]int{unit / 16, 0, 0}, Tangential: [2]int{unit / 16, -unit / 32}}
	if _, ok := modulus(t, l); !ok {
		t.Fatal("there is no modulus")
	}
	for _, square := range []string{"0", "1/4", "1/16", "9/16", "1"} {
		p := at("-1/32", "1/16").times(bigRat(square))
		for _, k := range []int{1, 7, 60} {
			u, _, code := camera.Undistort(l, p.place(), k)
			if code != api.OK || camera.CheckUndistort(l, p.place(), u, k) != api.OK {
				t.Errorf("Undistort(%v, %d) = %v, %d", p, k, u, code)
			}
		}
	}
}

// P17.6: at the border a point may be found or not; beyond it there is none.
func TestUndistortBorder(t *testing.T) {
	outside := 0
	some(300, func(r *rand.Rand) {
		l := randomLens(r)
		wide := l
		wide.Field = min(unit, l.Field+1+r.Intn(1+l.Field/4))
		least, ok := modulus(t, wide)
		if !ok || wide.Field == l.Field {
			return
		}
		k := pick(r, 1, 5, 20, 60)
		e := pick(r, directions()...)
		for _, part := range []*big.Rat{big.NewRat(1, 1), sub(big.NewRat(1, 1), power2(61)), add(big.NewRat(1, 1), power2(61)), big.NewRat(int64(wide.Field), int64(l.Field))} {
			a := e.times(mul(radius(l), part))
			p := distorted(l, a).place()
			u, x, code := camera.Undistort(l, p, k)
			switch code {
			case api.OK:
				if camera.CheckUndistort(l, p, u, k) != api.OK {
					t.Fatalf("Undistort(%v, D%v, %d) = %v", l, a, k, u)
				}
			case api.ErrOutside:
				if !isZero(u.X, u.Y, x) {
					t.Fatalf("Undistort(%v, D%v, %d) = %v, %v", l, a, k, u, x)
				}
			default:
				t.Fatalf("Undistort(%v, D%v, %d): %d", l, a, k, code)
			}
			// All points of the field are mapped at least so far away from p.
			if gap := mul(least, mul(radius(l), sub(part, big.NewRat(1, 1)))); gap.Sign() > 0 && gap.Cmp(power2(k)) > 0 {
				if outside++; code != api.ErrOutside {
					t.Fatalf("Undistort(%v, D%v, %d) has found %v", l, a, k, u)
				}
			}
		}
	})
	if outside < 30 {
		t.Errorf("%d points outside", outside)
	}
	for _, p := range []point{at("100", "0"), at("-1/3", "99999999999999999999999999999999999999"), at("2", "2")} {
		if u, x, code := camera.Undistort(plain(), p.place(), 30); code != api.ErrOutside || !isZero(u.X, u.Y, x) {
			t.Errorf("Undistort(%v) = %v, %v, %d", p, u, x, code)
		}
	}
}

// P17.6: points with long numbers.
func TestUndistortLong(t *testing.T) {
	var long api.Int
	for i := range 1000 {
		long.Groups = append(long.Groups, uint32(1+i*i))
	}
	// A little more than 1/3.
	x := api.Rat{Num: integer.Add(long, integer.Of(1)), Den: integer.Mul(long, integer.Of(3))}
	l := plain()
	l.Radial, l.Tangential = [3]int{unit / 10, -unit / 50, 0}, [2]int{unit / 100, unit / 50}
	for _, p := range []api.Place{{X: x, Y: x}, {X: integerRat(0), Y: x}} {
		if u, _, code := camera.Undistort(l, p, 60); code != api.OK || camera.CheckUndistort(l, p, u, 60) != api.OK {
			t.Errorf("Undistort = %v, %d", u, code)
		}
	}
	p := api.Place{X: x, Y: api.Rat{Num: long, Den: integer.Of(1)}}
	if u, _, code := camera.Undistort(l, p, 60); code != api.ErrOutside || !isZero(u.X, u.Y) {
		t.Errorf("Undistort = %v, %d", u, code)
	}
}

// integerRat is the fraction n.
func integerRat(n int) api.Rat { return api.Rat{Num: integer.Of(n), Den: integer.Of(1)} }

// P17.6: the errors of Undistort, in their order.
func TestUndistortInvalid(t *testing.T) {
	degenerate := plain()
	degenerate.Radial[0] = -unit / 2
	good, bad := at("1/3", "0").place(), at("100", "0").place()
	for _, c := range []struct {
		l    api.Lens
		p    api.Place
		k    int
		code api.Code
	}{
		{plain(), good, 0, api.ErrRange},
		{plain(), good, 61, api.ErrRange},
		{plain(), bad, -1, api.ErrRange},
		{degenerate, good, 0, api.ErrRange},
		{degenerate, bad, math.MaxInt, api.ErrRange},
		{plain(), good, math.MinInt, api.ErrRange},
		{degenerate, good, 1, api.ErrDegenerate},
		{degenerate, bad, 60, api.ErrDegenerate},
		{plain(), bad, 1, api.ErrOutside},
		{plain(), bad, 60, api.ErrOutside},
	} {
		if u, x, code := camera.Undistort(c.l, c.p, c.k); code != c.code || !isZero(u.X, u.Y, x) {
			t.Errorf("Undistort(%v, %v, %d) = %v, %v, %d, want %d", c.l, c.p, c.k, u, x, code, c.code)
		}
	}
}

// P17.6: CheckUndistort accepts what is near enough, to the last place, and whatever lies in the field.
func TestCheckUndistort(t *testing.T) {
	for k := 1; k <= 60; k++ {
		limit := power2(k)
		for _, e := range directions() {
			for _, c := range []struct {
				factor *big.Rat
				code   api.Code
			}{{new(big.Rat), api.OK}, {big.NewRat(1, 1), api.OK}, {add(big.NewRat(1, 1), power2(200)), api.ErrProof}, {big.NewRat(-1, 1), api.OK}, {big.NewRat(2, 1), api.ErrProof}} {
				u := at("1/3", "-1/7")
				p := u.less(e.times(mul(limit, c.factor)))
				if code := camera.CheckUndistort(plain(), p.place(), u.place(), k); code != c.code {
					t.Errorf("CheckUndistort(%v, %v, %d): %d, want %d", p, u, k, code, c.code)
				}
			}
		}
	}
	some(500, func(r *rand.Rand) {
		l := pick(r, randomLens(r), pick(r, extremes()...))
		u := randomPoint(r, l)
		k := 1 + r.Intn(60)
		p := distorted(l, u).less(pick(r, directions()...).times(mul(power2(k), big.NewRat(int64(r.Intn(2001)), 1000))))
		want := api.OK
		if d := distorted(l, u).less(p); d.dot(d).Cmp(power2(2*k)) > 0 {
			want = api.ErrProof
		}
		a, b := p.place(), u.place()
		if code := camera.CheckUndistort(l, a, b, k); code != want || !pointOf(t, a).same(p) || !pointOf(t, b).same(u) {
			t.Fatalf("CheckUndistort(%v, %v, %v, %d): %d, want %d", l, p, u, k, code, want)
		}
	})
	// The number of places, before points outside, before points too far away; a lens without a modulus is no error.
	degenerate := plain()
	degenerate.Radial[0] = -unit / 2
	inside, beyond := at("1/2", "0"), at("1", "1/1000000")
	for _, l := range []api.Lens{plain(), degenerate} {
		for _, k := range []int{0, -1, 61, math.MinInt, math.MaxInt} {
			for _, u := range []point{inside, beyond} {
				if code := camera.CheckUndistort(l, beyond.place(), u.place(), k); code != api.ErrRange {
					t.Errorf("CheckUndistort with %d places: %d", k, code)
				}
			}
		}
		for _, k := range []int{1, 60} {
			for _, p := range []point{inside, beyond, distorted(l, beyond)} {
				if code := camera.CheckUndistort(l, p.place(), beyond.place(), k); code != api.ErrOutside {
					t.Errorf("CheckUndistort(%v, %v): %d", p, beyond, code)
				}
			}
			if code := camera.CheckUndistort(l, at("2", "0").place(), inside.place(), k); code != api.ErrProof {
				t.Errorf("CheckUndistort of a point too far away: %d", code)
			}
			if code := camera.CheckUndistort(l, distorted(l, inside).place(), inside.place(), k); code != api.OK {
				t.Errorf("CheckUndistort of a point that is met: %d", code)
			}
		}
	}
}
