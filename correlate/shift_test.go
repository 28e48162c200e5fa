package correlate_test

import (
	"math"
	"math/big"
	"math/rand"
	"slices"
	"testing"

	"fiducial/api"
	"fiducial/correlate"
	"fiducial/fraction"
)

// call are the arguments of a call of Shift.
type call struct {
	a, b        api.Raster
	at          []api.Pix
	size, reach int
	least       api.Rat
}

// shift calls Shift.
func (n call) shift() ([]api.Pix, []bool, api.Code) {
	return correlate.Shift(n.a, n.b, n.at, n.size, n.reach, n.least)
}

// shiftOf is the displacement of one point, by its definition, and the greatest score (nil if there is no position).
func (n call) shiftOf(p api.Pix) (api.Pix, *big.Rat) {
	var best *big.Rat
	var shift api.Pix
	patch := part(n.a, p.X, p.Y, n.size, n.size)
	for dy := -n.reach; dy <= n.reach; dy++ {
		for dx := -n.reach; dx <= n.reach; dx++ {
			x, y := p.X+dx, p.Y+dy
			if x < 0 || y < 0 || x+n.size > n.b.Width || y+n.size > n.b.Height {
				continue
			}
			if s := scoreOf(patch, n.b, x, y); best == nil || s.Cmp(best) > 0 {
				best, shift = s, api.Pix{X: dx, Y: dy}
			}
		}
	}
	return shift, best
}

// wantShift fails the test if Shift does not return the displacements. It returns how many points are found.
func wantShift(t *testing.T, n call) int {
	t.Helper()
	least, _ := new(big.Rat).SetString(fraction.Text(n.least))
	shifts, found, count := make([]api.Pix, len(n.at)), make([]bool, len(n.at)), 0
	for k, p := range n.at {
		if shift, best := n.shiftOf(p); best != nil && best.Cmp(least) >= 0 {
			shifts[k], found[k] = shift, true
			count++
		}
	}
	a, b, at, text := copied(n.a), copied(n.b), slices.Clone(n.at), texts(n.least)
	got, ok, code := n.shift()
	if code != api.OK || !slices.Equal(got, shifts) || !slices.Equal(ok, found) {
		t.Fatalf("Shift(%v) = %v, %v, %d, want %v, %v", n, got, ok, code, shifts, found)
	}
	for k := range got {
		got[k].X += 99
	}
	if !slices.Equal(a.Pixels, n.a.Pixels) || !slices.Equal(b.Pixels, n.b.Pixels) || !slices.Equal(at, n.at) || text != texts(n.least) {
		t.Fatalf("Shift(%v) has changed an argument", n)
	}
	return count
}

// randomCall is a call of Shift; many times b is a displaced a.
func randomCall(r *rand.Rand) call {
	n := call{a: random(r, 2+size(r), 2+size(r)), reach: pick(r, 0, 1, 2, 3, 64)}
	n.b = random(r, 2+size(r), 2+size(r))
	if r.Intn(3) > 0 {
		dx, dy := r.Intn(5)-2, r.Intn(5)-2
		source, change := n.a, r.Intn(3)
		n.b = drawn(n.b.Width, n.b.Height, source.Max, func(x, y int) int {
			if x -= dx; x < 0 || x >= source.Width || y-dy < 0 || y-dy >= source.Height || change == 2 && r.Intn(9) == 0 {
				return r.Intn(source.Max + 1)
			}
			return pixel(source, x, y-dy)
		})
	}
	n.size = 1 + r.Intn(min(n.a.Width, n.a.Height))
	for range r.Intn(6) {
		n.at = append(n.at, api.Pix{X: r.Intn(n.a.Width - n.size + 1), Y: r.Intn(n.a.Height - n.size + 1)})
	}
	n.least = fractionOf(pick(r, big.NewRat(0, 1), big.NewRat(-1, 1), big.NewRat(1, 1), big.NewRat(1+r.Int63n(9), 10), big.NewRat(-1-r.Int63n(9), 10), big.NewRat(3, 2), big.NewRat(-5, 2)))
	if len(n.at) > 0 && r.Intn(2) == 0 {
		// A score that just occurs is enough, anything above it is not.
		if _, best := n.shiftOf(n.at[0]); best != nil {
			tiny := new(big.Rat).SetFrac(big.NewInt(int64(r.Intn(2))), new(big.Int).Exp(big.NewInt(10), big.NewInt(60), nil))
			n.least = fractionOf(tiny.Add(tiny, best))
		}
	}
	return n
}

// P23.8: the displacements, by their definition.
func TestShift(t *testing.T) {
	found, points := 0, 0
	some(900, func(r *rand.Rand) {
		n := randomCall(r)
		found += wantShift(t, n)
		points += len(n.at)
	})
	if found < 500 || points-found < 500 {
		t.Errorf("%d of %d points are found", found, points)
	}
}

// P23.8, P23.9: a displaced image; every patch with variance is found where it went.
func TestShiftDisplaced(t *testing.T) {
	some(20, func(r *rand.Rand) {
		a := drawn(20, 18, 65535, func(x, y int) int { return r.Intn(65536) })
		want := api.Pix{X: r.Intn(7) - 3, Y: r.Intn(7) - 3}
		b := drawn(20, 18, 65535, func(x, y int) int {
			return pixel(a, (x-want.X+20)%20, (y-want.Y+18)%18)
		})
		var at []api.Pix
		for range 20 {
			at = append(at, api.Pix{X: 3 + r.Intn(11), Y: 3 + r.Intn(9)})
		}
		shifts, found, code := correlate.Shift(a, b, at, 4, 3, fraction.Whole(1))
		for k := range at {
			if code != api.OK || !found[k] || shifts[k] != want {
				t.Fatalf("Shift of %v = %v, %v, %d, want %v", at, shifts, found, code, want)
			}
		}
	})
}

// P23.8: equal scores: the least dy, then the least dx; also with a patch without variance.
func TestShiftEqual(t *testing.T) {
	flat := drawn(9, 9, 9, func(x, y int) int { return 4 })
	waves := drawn(9, 9, 9, func(x, y int) int { return x % 3 })
	zero := fraction.Whole(0)
	for _, c := range []struct {
		n     call
		want  api.Pix
		found bool
	}{
		{call{flat, waves, []api.Pix{{X: 3, Y: 4}}, 3, 2, zero}, api.Pix{X: -2, Y: -2}, true},
		{call{flat, waves, []api.Pix{{X: 1, Y: 6}}, 3, 2, zero}, api.Pix{X: -1, Y: -2}, true},
		{call{flat, waves, []api.Pix{{X: 3, Y: 4}}, 3, 2, fractionOf(big.NewRat(1, 1000))}, api.Pix{}, false},
		{call{waves, waves, []api.Pix{{X: 3, Y: 4}}, 3, 2, zero}, api.Pix{X: 0, Y: -2}, true},
		{call{waves, waves, []api.Pix{{X: 3, Y: 4}}, 3, 3, zero}, api.Pix{X: -3, Y: -3}, true},
		{call{waves, waves, []api.Pix{{X: 3, Y: 4}}, 3, 0, fraction.Whole(1)}, api.Pix{}, true},
		{call{waves, waves, []api.Pix{{X: 3, Y: 4}}, 3, 64, fractionOf(big.NewRat(1001, 1000))}, api.Pix{}, false},
		// No position: the other raster is too small, or ends before the patch comes.
		{call{waves, of(9, []int{1, 2}, []int{2, 1}), []api.Pix{{}}, 3, 64, fraction.Whole(-5)}, api.Pix{}, false},
		{call{waves, part(waves, 0, 0, 9, 2), []api.Pix{{}}, 3, 64, fraction.Whole(-5)}, api.Pix{}, false},
		{call{waves, part(waves, 0, 0, 3, 9), []api.Pix{{X: 6}}, 3, 5, fraction.Whole(-5)}, api.Pix{}, false},
		{call{waves, part(waves, 0, 0, 3, 9), []api.Pix{{X: 6}}, 3, 6, fraction.Whole(-5)}, api.Pix{X: -6}, true},
		{call{waves, part(waves, 0, 0, 9, 3), []api.Pix{{Y: 6}}, 3, 5, fraction.Whole(-5)}, api.Pix{}, false},
		{call{waves, part(waves, 0, 0, 9, 3), []api.Pix{{Y: 6}}, 3, 6, fraction.Whole(-5)}, api.Pix{Y: -6}, true},
	} {
		wantShift(t, c.n)
		if got, found, code := c.n.shift(); code != api.OK || got[0] != c.want || found[0] != c.found {
			t.Errorf("Shift(%v) = %v, %v, %d, want %v, %t", c.n, got, found, code, c.want, c.found)
		}
	}
}

// P23.8: the ends of the ranges: 256 points, all positions of a great raster, the greatest patch.
func TestShiftEnds(t *testing.T) {
	r := rand.New(rand.NewSource(5))
	a := drawn(64, 64, 65535, func(x, y int) int { return r.Intn(65536) })
	n := call{a, a, []api.Pix{{}}, 64, 64, fraction.Whole(1)}
	if wantShift(t, n) != 1 {
		t.Error("the raster itself is not found")
	}
	n = call{part(a, 0, 0, 20, 20), part(a, 1, 2, 20, 20), make([]api.Pix, 256), 3, 2, fraction.Whole(1)}
	for k := range n.at {
		n.at[k] = api.Pix{X: k % 18, Y: k / 16}
	}
	if count := wantShift(t, n); count < 100 {
		t.Errorf("%d points are found", count)
	}
	n = call{a, a, []api.Pix{{X: 56, Y: 56}, {X: 56}, {Y: 56}}, 8, 64, fractionOf(big.NewRat(1, 2))}
	if shifts, found, code := n.shift(); code != api.OK || !slices.Equal(shifts, make([]api.Pix, 3)) || slices.Contains(found, false) {
		t.Errorf("Shift = %v, %v, %d", shifts, found, code)
	}
	if shifts, found, code := correlate.Shift(a, a, nil, 64, 0, fraction.Whole(0)); code != api.OK || len(shifts) != 0 || len(found) != 0 {
		t.Errorf("Shift of no points = %v, %v, %d", shifts, found, code)
	}
	// All points lie in the raster even if there is no patch of this size.
	if shifts, found, code := correlate.Shift(part(a, 0, 0, 3, 3), a, nil, 64, 0, fraction.Whole(0)); code != api.OK || len(shifts) != 0 || len(found) != 0 {
		t.Errorf("Shift of no points = %v, %v, %d", shifts, found, code)
	}
}

// fault is what may be wrong in a call, and its code.
type fault struct {
	code   api.Code
	change func(n *call)
}

// faults are faults in the order in which they are asked for.
func faults() []fault {
	var l []fault
	put := func(code api.Code, change func(n *call)) { l = append(l, fault{code, change}) }
	for _, a := range invalidRasters() {
		put(api.ErrArgument, func(n *call) { n.a = a })
		put(api.ErrArgument, func(n *call) { n.b = a })
	}
	for _, k := range append(far(), 0, -1, 65) {
		put(api.ErrRange, func(n *call) { n.size = k })
	}
	for _, k := range append(far(), -1, 65, math.MinInt+5) {
		put(api.ErrRange, func(n *call) { n.reach = k })
	}
	for _, x := range notCanonical() {
		put(api.ErrArgument, func(n *call) { n.least = x })
	}
	put(api.ErrLimit, func(n *call) { n.at = append(make([]api.Pix, 257), n.at...) })
	put(api.ErrLimit, func(n *call) { n.at = append(slices.Repeat(n.at, 256), n.at...) })
	for _, k := range append(far(), -1, 4, 5, 64) {
		put(api.ErrOutside, func(n *call) { n.at = append(n.at, api.Pix{X: k, Y: 1}) })
		put(api.ErrOutside, func(n *call) { n.at = append([]api.Pix{{X: 1, Y: k}}, n.at...) })
	}
	put(api.ErrOutside, func(n *call) { n.at = append(n.at, api.Pix{Y: 3}) })
	put(api.ErrOutside, func(n *call) { n.size = max(n.size, 5) })
	return l
}

// P23.8: each fault alone, and each pair of faults: the code is that of the fault that comes first.
func TestShiftFaults(t *testing.T) {
	list := faults()
	for i, first := range list {
		for _, second := range list[i:] {
			n := call{drawn(6, 5, 9, func(x, y int) int { return (x*x + y) % 10 }), drawn(4, 4, 9, func(x, y int) int { return (x + y) % 10 }), []api.Pix{{X: 1, Y: 1}}, 3, 2, fraction.Whole(0)}
			if _, _, code := n.shift(); code != api.OK {
				t.Fatalf("Shift(%v): %d", n, code)
			}
			second.change(&n)
			first.change(&n)
			if shifts, found, code := n.shift(); code != first.code || len(shifts) != 0 || len(found) != 0 {
				t.Fatalf("Shift(%v) = %v, %v, %d, want %d; then %d", n, shifts, found, code, first.code, second.code)
			}
		}
	}
}
