package descriptor_test

import (
	"math/rand"
	"testing"

	"fiducial/api"
	"fiducial/descriptor"
	"fiducial/raster"
)

// turn is a raster turned by a quarter.
func turn(t *testing.T, a api.Raster) api.Raster {
	t.Helper()
	b, code := raster.Turn(a)
	if code != api.OK {
		t.Fatalf("Turn(%v): %d", a, code)
	}
	return b
}

// P21.4: the turned pattern has at the same pixel of the turned raster the same word.
func TestTurnedWords(t *testing.T) {
	words := 0
	some(400, func(r *rand.Rand) {
		a, p := random(r), randomPattern(r)
		b := turn(t, a)
		q, _ := descriptor.Turned(p)
		for _, at := range sample(r, a) {
			x, y := at.X, at.Y
			w, code := descriptor.Describe(a, p, x, y)
			v, codeTurned := descriptor.Describe(b, q, y, a.Width-1-x)
			if w != v || code != codeTurned {
				t.Fatalf("Describe(%v, %v, %d, %d) = %x, %d; turned %x, %d", a, p, x, y, w, code, v, codeTurned)
			}
			if w != 0 {
				words++
			}
		}
	})
	if words < 5000 {
		t.Errorf("%d words are not 0", words)
	}
}

// P21.5: the number of the brightest side, by its definition, and of the turned raster.
func TestQuarter(t *testing.T) {
	found := map[api.Code]int{}
	sides := map[int]int{}
	some(400, func(r *rand.Rand) {
		a := random(r)
		before, b := copied(a), turn(t, a)
		n := pick(r, 1, 1, 2, 3, 1+r.Intn(16))
		for _, at := range sample(r, a) {
			x, y := at.X, at.Y
			want, wantCode := quarterOf(a, x, y, n)
			got, code := descriptor.Quarter(a, x, y, n)
			if got != want || code != wantCode {
				t.Fatalf("Quarter(%v, %d, %d, %d) = %d, %d, want %d, %d", a, x, y, n, got, code, want, wantCode)
			}
			after, codeTurned := descriptor.Quarter(b, y, a.Width-1-x, n)
			if codeTurned != code || code == api.OK && after != (got+1)%4 {
				t.Fatalf("Quarter(%v, %d, %d, %d) = %d, %d; turned %d, %d", a, x, y, n, got, code, after, codeTurned)
			}
			found[code]++
			if code == api.OK {
				sides[got]++
			}
		}
		if !raster.Equal(a, before) {
			t.Fatalf("Quarter has changed %v", before)
		}
	})
	if found[api.OK] < 5000 || found[api.ErrOutside] < 5000 || found[api.ErrDegenerate] < 1000 || min(sides[0], sides[1], sides[2], sides[3]) < 1000 {
		t.Errorf("codes %v, sides %v", found, sides)
	}
}

// P21.5: which pixels belong to which side; the pixel itself and those beyond the sides belong to none.
func TestQuarterSides(t *testing.T) {
	for n := 1; n <= 16; n++ {
		for i := range (2*n + 5) * (2*n + 5) {
			size := 2*n + 5
			a := drawn(size, size, 7, func(x, y int) int { return 0 })
			a.Pixels[i] = 7
			want, wantCode := quarterOf(a, n+2, n+2, n)
			if got, code := descriptor.Quarter(a, n+2, n+2, n); got != want || code != wantCode {
				t.Fatalf("Quarter with a bright pixel %d, %d of %d = %d, %d, want %d, %d", i%size, i/size, size, got, code, want, wantCode)
			}
		}
	}
	a := drawn(64, 64, 65535, func(x, y int) int { return 65534 })
	a.Pixels[32*64+40]++
	for _, c := range []struct {
		x, y, n, want int
		code          api.Code
	}{
		{32, 32, 16, 0, api.OK}, {40, 47, 16, 1, api.OK}, {47, 32, 16, 2, api.OK}, {40, 16, 16, 3, api.OK},
		{16, 16, 16, 0, api.ErrDegenerate}, {47, 47, 16, 0, api.ErrDegenerate},
		{48, 47, 16, 0, api.ErrOutside}, {47, 48, 16, 0, api.ErrOutside}, {15, 16, 16, 0, api.ErrOutside}, {16, 15, 16, 0, api.ErrOutside},
	} {
		if got, code := descriptor.Quarter(a, c.x, c.y, c.n); got != c.want || code != c.code {
			t.Errorf("Quarter at %d, %d with %d = %d, %d", c.x, c.y, c.n, got, code)
		}
	}
}

// P21.6: the word of the turned pattern; turning the raster changes no word.
func TestUpright(t *testing.T) {
	found, sides := map[api.Code]int{}, map[int]int{}
	some(400, func(r *rand.Rand) {
		a, p := random(r), randomPattern(r)
		if r.Intn(4) == 0 {
			p = descriptor.Standard()
		}
		b := turn(t, a)
		n := pick(r, 1, 1, 2, 3, 1+r.Intn(16))
		for _, at := range sample(r, a) {
			x, y := at.X, at.Y
			want := uint64(0)
			quarter, wantCode := quarterOf(a, x, y, n)
			if wantCode == api.OK {
				q := p
				for range quarter {
					q = turnedOf(q)
				}
				want, _, wantCode = wordOf(a, q, x, y)
			}
			got, code := descriptor.Upright(a, p, x, y, n)
			if got != want || code != wantCode {
				t.Fatalf("Upright(%v, %v, %d, %d, %d) = %x, %d, want %x, %d", a, p, x, y, n, got, code, want, wantCode)
			}
			if after, codeTurned := descriptor.Upright(b, p, y, a.Width-1-x, n); after != got || codeTurned != code {
				t.Fatalf("Upright(%v, %v, %d, %d, %d) = %x, %d; turned %x, %d", a, p, x, y, n, got, code, after, codeTurned)
			}
			found[code]++
			if code == api.OK && got != 0 {
				sides[quarter]++
			}
		}
	})
	if found[api.OK] < 1000 || found[api.ErrOutside] < 1000 || found[api.ErrDegenerate] < 1000 || min(sides[0], sides[1], sides[2], sides[3]) < 200 {
		t.Errorf("codes %v, sides %v", found, sides)
	}
}

// P21.5, P21.6: a raster, then a pattern, then a pixel or a number, then a side outside, then equal sides, then a box outside.
func TestQuarterInvalid(t *testing.T) {
	wants := func(a api.Raster, p []descriptor.Test, x, y, n int, want api.Code) {
		t.Helper()
		if w, code := descriptor.Upright(a, p, x, y, n); w != 0 || code != want {
			t.Errorf("Upright(%v, %v, %d, %d, %d) = %x, %d, want %d", a, p, x, y, n, w, code, want)
		}
		if q, code := descriptor.Quarter(a, x, y, n); descriptor.Check(p) == api.OK && (q != 0 || code != want) {
			t.Errorf("Quarter(%v, %d, %d, %d) = %d, %d, want %d", a, x, y, n, q, code, want)
		}
	}
	good := of(9, []int{0, 9, 0}, []int{0, 0, 0}, []int{0, 0, 0})
	for _, a := range invalidRasters() {
		wants(a, beside(), 0, 0, 1, api.ErrArgument)
		wants(a, beside(), -1, 0, 17, api.ErrArgument)
		wants(a, nil, 0, 0, 0, api.ErrArgument)
	}
	for _, p := range invalidPatterns() {
		wants(good, p, 1, 1, 1, api.ErrArgument)
		wants(good, p, 3, 1, 1, api.ErrArgument)
		wants(good, p, 0, 1, 1, api.ErrArgument)
		wants(good, p, 1, 1, 0, api.ErrArgument)
	}
	for _, n := range append(far(), -1, 64) {
		wants(good, beside(), n, 1, 1, api.ErrRange)
		wants(good, beside(), 1, n, 1, api.ErrRange)
		wants(good, beside(), n, n, 2, api.ErrRange)
		wants(good, beside(), 1, 1, n, api.ErrRange)
	}
	for _, n := range []int{0, 17, -1} {
		wants(good, beside(), 1, 1, n, api.ErrRange)
		wants(good, beside(), 0, 0, n, api.ErrRange)
	}
	wants(good, beside(), 3, 1, 1, api.ErrRange)
	wants(good, beside(), 1, 3, 1, api.ErrRange)
	level := of(9, []int{9, 9, 9}, []int{9, 9, 9}, []int{9, 9, 9})
	away := one([4]int{0, 0, 1, 1}, [4]int{-3, 0, 1, 1})
	for _, at := range [][3]int{{0, 1, 1}, {2, 1, 1}, {1, 0, 1}, {1, 2, 1}, {1, 1, 2}, {1, 1, 16}} {
		wants(level, away, at[0], at[1], at[2], api.ErrOutside)
	}
	wants(level, away, 1, 1, 1, api.ErrDegenerate)
	if w, code := descriptor.Upright(good, away, 1, 1, 1); w != 0 || code != api.ErrOutside {
		t.Errorf("Upright = %x, %d", w, code)
	}
	// Up is the brightest side: the box to the right becomes the box above.
	if w, code := descriptor.Upright(good, beside(), 1, 1, 1); w != 1 || code != api.OK {
		t.Errorf("Upright = %x, %d", w, code)
	}
}
