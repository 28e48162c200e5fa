package corner_test

import (
	"math/rand"
	"slices"
	"testing"

	"fiducial/api"
	"fiducial/corner"
)

// maxCoord is the greatest coordinate.
const maxCoord = 1 << 20

// isNear reports whether two corners are within a radius.
func isNear(a, b api.Corner, radius int) bool {
	return (a.X-b.X)*(a.X-b.X)+(a.Y-b.Y)*(a.Y-b.Y) <= radius*radius
}

// wantThin fails the test if Thin does not keep just the corners that are not near an earlier one that is kept.
func wantThin(t *testing.T, l []api.Corner, radius int) []api.Corner {
	t.Helper()
	kept := make([]bool, len(l))
	var want []api.Corner
	for i, c := range l {
		kept[i] = true
		for j, k := range l[:i] {
			kept[i] = kept[i] && !(kept[j] && isNear(c, k, radius))
		}
		if kept[i] {
			want = append(want, c)
		}
	}
	before := slices.Clone(l)
	got, code := corner.Thin(l, radius)
	if code != api.OK || !slices.Equal(got, want) {
		t.Fatalf("Thin(%v, %d) = %v, %d, want %v", l, radius, got, code, want)
	}
	for i := range got {
		got[i].X += 77
	}
	if !slices.Equal(l, before) {
		t.Fatalf("Thin(%v, %d) has changed its argument, or shares memory with it", before, radius)
	}
	return want
}

// P20.3: all short lists of the points of a small grid.
func TestThinAll(t *testing.T) {
	for n := range 9 * 9 * 9 * 9 {
		var l []api.Corner
		for m := n; m > 0; m /= 9 {
			l = append(l, api.Corner{X: 3 * (m % 9 % 3), Y: 4 * (m % 9 / 3), Score: m})
		}
		for radius := range 12 {
			wantThin(t, l, radius)
		}
	}
}

// P20.3: no two that are kept are near one another, and each one that is left out is near one that is kept.
func TestThin(t *testing.T) {
	left := 0
	some(600, func(r *rand.Rand) {
		most := pick(r, 1, 10, 100, 4096, maxCoord)
		number := func() int { return pick(r, most, -most, r.Intn(2*most+1)-most, r.Intn(2*most+1)-most) }
		var l []api.Corner
		for range r.Intn(pick(r, 4, 40, 200)) {
			l = append(l, api.Corner{X: number(), Y: number(), Score: r.Intn(1000) - 500})
		}
		radius := r.Intn(most + 1)
		kept := wantThin(t, l, radius)
		left += len(l) - len(kept)
		for i, a := range kept {
			for _, b := range kept[:i] {
				if isNear(a, b, radius) {
					t.Fatalf("Thin(%v, %d) = %v", l, radius, kept)
				}
			}
		}
		for _, a := range l {
			if !slices.ContainsFunc(kept, func(b api.Corner) bool { return isNear(a, b, radius) }) {
				t.Fatalf("Thin(%v, %d) = %v", l, radius, kept)
			}
		}
	})
	if left < 1000 {
		t.Errorf("%d are left out", left)
	}
}

// P20.3: the radius itself is near; a corner near one that was left out may be kept; the ends of the ranges.
func TestThinRadius(t *testing.T) {
	for _, c := range []struct {
		l      []api.Corner
		radius int
		kept   int
	}{
		{[]api.Corner{{X: 0}, {X: 3, Y: 4}}, 5, 1},
		{[]api.Corner{{X: 0}, {X: 3, Y: 4}}, 4, 2},
		{[]api.Corner{{X: 0}, {X: 4}, {X: 8}}, 4, 2},
		{[]api.Corner{{X: 7, Y: 7}, {X: 7, Y: 7, Score: 9}}, 0, 1},
		{[]api.Corner{{X: 7, Y: 7}, {X: 7, Y: 8}}, 0, 2},
		{[]api.Corner{{X: maxCoord, Y: maxCoord}, {X: -maxCoord, Y: -maxCoord}, {X: maxCoord, Y: -maxCoord}}, maxCoord, 3},
		{[]api.Corner{{X: maxCoord, Y: -maxCoord}, {Y: -maxCoord}}, maxCoord, 1},
		{[]api.Corner{{X: maxCoord, Y: -maxCoord}, {X: -1, Y: -maxCoord}}, maxCoord, 2},
		{nil, 0, 0},
		{nil, maxCoord, 0},
	} {
		if kept := wantThin(t, c.l, c.radius); len(kept) != c.kept {
			t.Errorf("Thin(%v, %d) = %v", c.l, c.radius, kept)
		}
	}
	many := make([]api.Corner, 4096)
	for i := range many {
		many[i] = api.Corner{X: 64 * (i % 64), Y: 64 * (i / 64), Score: -i}
	}
	if kept := wantThin(t, many, 63); len(kept) != 4096 {
		t.Errorf("%d are kept", len(kept))
	}
	if kept := wantThin(t, many, 64); len(kept) != 2048 {
		t.Errorf("%d are kept", len(kept))
	}
}

// P20.3: too many corners, then a radius or a coordinate outside its range.
func TestThinInvalid(t *testing.T) {
	many := make([]api.Corner, 4097)
	for _, radius := range []int{0, -1, maxCoord, maxCoord + 1} {
		if l, code := corner.Thin(many, radius); code != api.ErrLimit || len(l) != 0 {
			t.Errorf("Thin of 4097 with %d: %d, %d", radius, len(l), code)
		}
	}
	many[5].X = maxCoord + 1
	if l, code := corner.Thin(many, 1); code != api.ErrLimit || len(l) != 0 {
		t.Errorf("Thin of 4097: %d, %d", len(l), code)
	}
	for _, radius := range append(far(), -1, maxCoord+1) {
		for _, l := range [][]api.Corner{nil, {{}}} {
			if got, code := corner.Thin(l, radius); code != api.ErrRange || len(got) != 0 {
				t.Errorf("Thin(%v, %d) = %v, %d", l, radius, got, code)
			}
		}
	}
	for _, n := range append(far(), -maxCoord-1, maxCoord+1) {
		for _, bad := range []api.Corner{{X: n}, {Y: n}} {
			for i := range 3 {
				l := make([]api.Corner, 3)
				l[i] = bad
				if got, code := corner.Thin(l, 1); code != api.ErrRange || len(got) != 0 {
					t.Errorf("Thin(%v, 1) = %v, %d", l, got, code)
				}
			}
		}
		// A score may be any number.
		wantThin(t, []api.Corner{{Score: n}, {X: 9, Score: -n}}, 3)
	}
}
