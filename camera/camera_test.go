package camera_test

import (
	"math/big"
	"math/rand"
	"testing"

	"fiducial/api"
	"fiducial/camera"
	"fiducial/fraction"
)

// P17.1: what is a lens and what is none.
func TestCheck(t *testing.T) {
	for _, l := range extremes() {
		if code := camera.Check(l); code != api.OK {
			t.Errorf("Check(%v): %d", l, code)
		}
	}
	for _, l := range invalid() {
		if code := camera.Check(l); code != api.ErrRange {
			t.Errorf("Check(%v): %d", l, code)
		}
	}
	some(1000, func(r *rand.Rand) {
		if l := randomLens(r); camera.Check(l) != api.OK {
			t.Fatalf("Check(%v)", l)
		}
	})
}

// P17.1 to P17.4, P17.6: what is no lens, before fractions that are not canonical, before all else.
func TestInvalid(t *testing.T) {
	good := at("1/3", "1/5").place()
	var bad []api.Place
	for _, x := range notCanonical() {
		bad = append(bad, api.Place{X: x, Y: good.Y}, api.Place{X: good.X, Y: x}, api.Place{X: x, Y: x})
	}
	check := func(what string, l api.Lens, p api.Place, want, code api.Code, results ...api.Rat) {
		t.Helper()
		if code != want || !isZero(results...) {
			t.Errorf("%s(%v, %v): %v, %d, want %d", what, l, p, results, code, want)
		}
	}
	all := func(l api.Lens, p api.Place, want api.Code) {
		t.Helper()
		for name, f := range map[string]func(api.Lens, api.Place) (api.Place, api.Code){"Normal": camera.Normal, "Pixel": camera.Pixel, "Distort": camera.Distort} {
			q, code := f(l, p)
			check(name, l, p, want, code, q.X, q.Y)
		}
		if camera.Inside(l, p) {
			t.Errorf("Inside(%v, %v)", l, p)
		}
		m, code := camera.Jacobian(l, p)
		check("Jacobian", l, p, want, code)
		if len(m) != 0 {
			t.Errorf("Jacobian(%v, %v) = %v", l, p, m)
		}
		for _, k := range []int{0, 1, 60, 61} {
			u, x, code := camera.Undistort(l, p, k)
			check("Undistort", l, p, want, code, u.X, u.Y, x)
			check("CheckUndistort", l, p, want, camera.CheckUndistort(l, p, good, k))
			check("CheckUndistort", l, p, want, camera.CheckUndistort(l, good, p, k))
			check("CheckUndistort", l, p, want, camera.CheckUndistort(l, p, p, k))
		}
	}
	for _, l := range invalid() {
		m, code := camera.Modulus(l)
		check("Modulus", l, good, api.ErrRange, code, m)
		all(l, good, api.ErrRange)
		all(l, bad[0], api.ErrRange)
	}
	degenerate := plain()
	degenerate.Radial[0] = -unit
	for _, p := range bad {
		all(plain(), p, api.ErrArgument)
		all(degenerate, p, api.ErrArgument)
	}
}

// P17.1: the normalised point of an image point, and back; points may be anywhere.
func TestNormalPixel(t *testing.T) {
	some(1500, func(r *rand.Rand) {
		l := randomLens(r)
		if r.Intn(5) == 0 {
			l = pick(r, extremes()...)
		}
		number := func() *big.Rat {
			return quo(big.NewRat(r.Int63()-r.Int63(), 1+r.Int63n(pick(r, int64(1), 10, 1<<40))), big.NewRat(1+r.Int63n(pick(r, int64(1), 1<<60)), 1))
		}
		p := point{number(), number()}
		arg := p.place()
		normal := point{quo(sub(p.x, big.NewRat(int64(l.Centre.X), 1)), big.NewRat(int64(l.Focal), 1)), quo(sub(p.y, big.NewRat(int64(l.Centre.Y), 1)), big.NewRat(int64(l.Focal), 1))}
		q, code := camera.Normal(l, arg)
		if code != api.OK || !pointOf(t, q).same(normal) || !pointOf(t, arg).same(p) {
			t.Fatalf("Normal(%v, %v) = %v, %d", l, p, q, code)
		}
		back, code := camera.Pixel(l, q)
		if code != api.OK || !pointOf(t, back).same(p) {
			t.Fatalf("Pixel(%v, %v) = %v, %d", l, normal, back, code)
		}
		overwrite(q, back)
		if !pointOf(t, arg).same(p) {
			t.Fatalf("Normal or Pixel of %v shares memory with it", p)
		}
	})
	l := api.Lens{Focal: 64, Centre: api.Pix{X: 100, Y: -30}, Field: 1}
	if q, code := camera.Normal(l, at("116", "-62").place()); code != api.OK || !pointOf(t, q).same(at("1/4", "-1/2")) {
		t.Errorf("Normal = %v, %d", q, code)
	}
	if q, code := camera.Pixel(l, at("1/4", "-1/2").place()); code != api.OK || !pointOf(t, q).same(at("116", "-62")) {
		t.Errorf("Pixel = %v, %d", q, code)
	}
	// At the centre no memory is shared either: whatever is added is 0.
	l.Centre, l.Focal = api.Pix{}, 1
	arg := at("7", "9").place()
	q, _ := camera.Normal(l, arg)
	p, _ := camera.Pixel(l, arg)
	overwrite(q, p)
	if !pointOf(t, arg).same(at("7", "9")) {
		t.Error("results share memory with arguments")
	}
}

// P17.1: the border belongs to the field.
func TestInside(t *testing.T) {
	tiny := power2(300)
	some(1500, func(r *rand.Rand) {
		l := pick(r, randomLens(r), pick(r, extremes()...))
		for _, factor := range []*big.Rat{new(big.Rat), big.NewRat(1, 2), big.NewRat(1, 1), add(big.NewRat(1, 1), tiny), sub(big.NewRat(1, 1), tiny), big.NewRat(3, 2)} {
			p := pick(r, directions()...).times(mul(factor, radius(l)))
			if want := factor.Cmp(big.NewRat(1, 1)) <= 0; camera.Inside(l, p.place()) != want || inField(l, p) != want {
				t.Fatalf("Inside(%v, %v) is not %t", l, p, want)
			}
		}
		p := point{mul(radius(l), big.NewRat(int64(r.Intn(5)-2), 2)), mul(radius(l), big.NewRat(int64(r.Intn(999)), 999))}
		if camera.Inside(l, p.place()) != inField(l, p) {
			t.Fatalf("Inside(%v, %v) is not %t", l, p, inField(l, p))
		}
	})
}

// P17.3: the distortion, by its definition.
func TestDistort(t *testing.T) {
	some(2500, func(r *rand.Rand) {
		l := pick(r, randomLens(r), randomLens(r), pick(r, extremes()...))
		p := randomPoint(r, l)
		arg := p.place()
		q, code := camera.Distort(l, arg)
		if want := distorted(l, p); code != api.OK || !pointOf(t, q).same(want) || !pointOf(t, arg).same(p) {
			t.Fatalf("Distort(%v, %v) = %v, %d, want %v", l, p, q, code, want)
		}
		overwrite(q)
		if !pointOf(t, arg).same(p) {
			t.Fatalf("Distort of %v shares memory with it", p)
		}
	})
	barrel, decentred := plain(), api.Lens{Focal: 64, Field: 16, Tangential: [2]int{unit / 16, 0}}
	barrel.Radial[0] = -unit / 8
	for _, c := range []struct {
		l       api.Lens
		p, want point
	}{
		{barrel, at("1/2", "0"), at("31/64", "0")},
		{decentred, at("0", "1/4"), at("0", "67/256")},
		{decentred, at("1/4", "0"), at("1/4", "1/256")},
		{api.Lens{Focal: 64, Field: 64, Tangential: [2]int{0, unit / 16}}, at("3/5", "4/5"), at("283/400", "43/50")},
		{api.Lens{Focal: 64, Field: 64, Radial: [3]int{unit, unit / 2, unit / 4}}, at("-3/5", "4/5"), at("-33/20", "11/5")},
		{plain(), at("-3/5", "4/5"), at("-3/5", "4/5")},
	} {
		if q, code := camera.Distort(c.l, c.p.place()); code != api.OK || !pointOf(t, q).same(c.want) {
			t.Errorf("Distort(%v, %v) = %v, %d", c.l, c.p, pointOf(t, q), code)
		}
	}
}

// P17.3, P17.4, P17.6: points outside the field.
func TestOutside(t *testing.T) {
	for _, l := range extremes() {
		for _, e := range directions() {
			beyond := e.times(mul(radius(l), add(big.NewRat(1, 1), power2(200)))).place()
			if q, code := camera.Distort(l, beyond); code != api.ErrOutside || !isZero(q.X, q.Y) {
				t.Errorf("Distort(%v, %v) = %v, %d", l, beyond, q, code)
			}
			if m, code := camera.Jacobian(l, beyond); code != api.ErrOutside || len(m) != 0 {
				t.Errorf("Jacobian(%v, %v) = %v, %d", l, beyond, m, code)
			}
			if code := camera.CheckUndistort(l, beyond, beyond, 1); code != api.ErrOutside {
				t.Errorf("CheckUndistort(%v, %v): %d", l, beyond, code)
			}
		}
	}
}

// slope is the derivative of the distortion at p in a direction. A polynomial of a degree up to 8 has exactly this one.
func slope(l api.Lens, p, e point) point {
	sum := point{new(big.Rat), new(big.Rat)}
	for i, weight := range []*big.Rat{big.NewRat(4, 5), big.NewRat(-1, 5), big.NewRat(4, 105), big.NewRat(-1, 280)} {
		step := e.times(big.NewRat(int64(i+1), 1))
		change := distorted(l, point{add(p.x, step.x), add(p.y, step.y)}).less(distorted(l, p.less(step)))
		sum = sum.less(change.times(new(big.Rat).Neg(weight)))
	}
	return sum
}

// P17.4: the derivatives are exact, symmetric, and have a determinant of at least the square of the modulus.
func TestJacobian(t *testing.T) {
	definite := 0
	some(800, func(r *rand.Rand) {
		l := pick(r, randomLens(r), randomLens(r), pick(r, extremes()...))
		p := randomPoint(r, l)
		arg := p.place()
		m, code := camera.Jacobian(l, arg)
		if code != api.OK || len(m) != 2 || len(m[0]) != 2 || len(m[1]) != 2 || !pointOf(t, arg).same(p) {
			t.Fatalf("Jacobian(%v, %v) = %v, %d", l, p, m, code)
		}
		var z [4]*big.Rat
		for i := range z {
			z[i] = bigOf(t, m[i/2][i%2])
		}
		if !slope(l, p, at("1", "0")).same(point{z[0], z[2]}) || !slope(l, p, at("0", "1")).same(point{z[1], z[3]}) || z[1].Cmp(z[2]) != 0 {
			t.Fatalf("Jacobian(%v, %v) = %v", l, p, z)
		}
		overwrite(api.Place{X: m[0][0], Y: m[0][1]})
		if bigOf(t, m[1][0]).Cmp(z[2]) != 0 || bigOf(t, m[1][1]).Cmp(z[3]) != 0 || !pointOf(t, arg).same(p) {
			t.Fatalf("Jacobian(%v, %v) shares memory", l, p)
		}
		least, ok := modulus(t, l)
		if ok {
			definite++
			if det := sub(mul(z[0], z[3]), mul(z[1], z[2])); det.Cmp(mul(least, least)) < 0 {
				t.Fatalf("Jacobian(%v, %v) has the determinant %s, the modulus is %s", l, p, det, least)
			}
		}
	})
	if definite < 100 {
		t.Errorf("%d lenses have a modulus", definite)
	}
	barrel := plain()
	barrel.Radial[0] = -unit / 8
	if m, code := camera.Jacobian(barrel, at("1/2", "0").place()); code != api.OK || fraction.Text(m[0][0]) != "29/32" || fraction.Text(m[0][1]) != "0" || fraction.Text(m[1][0]) != "0" || fraction.Text(m[1][1]) != "31/32" {
		t.Errorf("Jacobian = %v, %d", m, code)
	}
}

// P17.5: the distortion moves points apart, and does not turn them, by at least the modulus.
func TestMonotone(t *testing.T) {
	some(700, func(r *rand.Rand) {
		l := randomLens(r)
		least, ok := modulus(t, l)
		if !ok {
			return
		}
		a, b := randomPoint(r, l), randomPoint(r, l)
		if r.Intn(3) == 0 {
			// A neighbour.
			b = a.times(sub(big.NewRat(1, 1), power2(1+r.Intn(60))))
		}
		p, code := camera.Distort(l, a.place())
		q, e := camera.Distort(l, b.place())
		if code != api.OK || e != api.OK {
			t.Fatalf("Distort: %d, %d", code, e)
		}
		d := a.less(b)
		if pointOf(t, p).less(pointOf(t, q)).dot(d).Cmp(mul(least, d.dot(d))) < 0 {
			t.Fatalf("%v has the modulus %s, but not for %v and %v", l, least, a, b)
		}
	})
}

// P17.8: without tangential numbers, rays from the centre are kept, and the order on them.
func TestRays(t *testing.T) {
	some(800, func(r *rand.Rand) {
		l := randomLens(r)
		l.Tangential = [2]int{}
		if _, ok := modulus(t, l); !ok {
			return
		}
		e := pick(r, directions()...)
		near := mul(radius(l), big.NewRat(int64(r.Intn(999)), 1000))
		far := mul(radius(l), big.NewRat(999+int64(r.Intn(2)), 1000))
		p, code := camera.Distort(l, e.times(near).place())
		q, c := camera.Distort(l, e.times(far).place())
		if code != api.OK || c != api.OK {
			t.Fatalf("Distort: %d, %d", code, c)
		}
		a, b := pointOf(t, p), pointOf(t, q)
		if !a.same(e.times(a.dot(e))) || !b.same(e.times(b.dot(e))) {
			t.Fatalf("%v moves points off the ray", l)
		}
		if a.dot(e).Sign() < 0 || a.dot(e).Cmp(b.dot(e)) >= 0 {
			t.Fatalf("%v exchanges points of the ray", l)
		}
	})
}
