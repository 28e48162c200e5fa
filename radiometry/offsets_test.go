package radiometry_test

import (
	"math/big"
	"math/rand"
	"slices"
	"testing"

	"fiducial/api"
	"fiducial/radiometry"
)

// disagreement is the sum of Weight (o_B + Diff - o_A)^2.
func disagreement(common []api.Common, offsets []*big.Rat) *big.Rat {
	sum := new(big.Rat)
	for _, c := range common {
		z := misses(c, offsets)
		z.Mul(z, z)
		sum.Add(sum, z.Mul(z, big.NewRat(int64(c.Weight), 1)))
	}
	return sum
}

// misses is o_B + Diff - o_A.
func misses(c api.Common, offsets []*big.Rat) *big.Rat {
	z := new(big.Rat).Sub(offsets[c.B], offsets[c.A])
	return z.Add(z, big.NewRat(int64(c.Diff), 1))
}

// components are the numbers of the connected components of images.
func components(images int, common []api.Common) []int {
	l := make([]int, images)
	for i := range l {
		l[i] = i
	}
	for range common {
		for _, c := range common {
			l[c.A] = min(l[c.A], l[c.B])
			l[c.B] = l[c.A]
		}
	}
	return l
}

// wantOffsets fails the test unless Offsets returns numbers with the sum 0 in each component at which all derivatives of the sum are 0: since it is convex, and grows in each direction that is not constant in the components, these are the only ones.
func wantOffsets(t *testing.T, images int, common []api.Common) []*big.Rat {
	t.Helper()
	before := slices.Clone(common)
	l, code := radiometry.Offsets(images, common)
	if code != api.OK || len(l) != images || !slices.Equal(common, before) {
		t.Fatalf("Offsets(%d, %v) = %s, %d", images, common, text(l...), code)
	}
	var offsets, slopes, sums []*big.Rat
	for _, x := range l {
		offsets = append(offsets, bigOf(t, x))
		slopes, sums = append(slopes, new(big.Rat)), append(sums, new(big.Rat))
	}
	for _, c := range common {
		z := misses(c, offsets)
		z.Mul(z, big.NewRat(int64(c.Weight), 1))
		slopes[c.B].Add(slopes[c.B], z)
		slopes[c.A].Sub(slopes[c.A], z)
	}
	for i, k := range components(images, common) {
		sums[k].Add(sums[k], offsets[i])
	}
	for i := range images {
		if slopes[i].Sign() != 0 || sums[i].Sign() != 0 {
			t.Fatalf("Offsets(%d, %v) = %s", images, common, text(l...))
		}
	}
	// Results share no memory.
	texts := text(l...)
	for i := range l {
		for k := range l[i].Num.Groups {
			l[i].Num.Groups[k] = 7
		}
		l[i] = ofBig(offsets[i])
		if text(l...) != texts {
			t.Fatal("offsets share memory")
		}
	}
	return offsets
}

// randomCommon are common parts of images, in some of which only a part of the images occurs.
func randomCommon(r *rand.Rand, images int) []api.Common {
	var l []api.Common
	for range r.Intn(pick(r, 4, 20, 65)) {
		c := api.Common{A: r.Intn(images), B: r.Intn(images), Diff: pick(r, 0, 65535, -65535, r.Intn(100)-50), Weight: pick(r, 1, 4096, 1+r.Intn(4096))}
		if c.A != c.B {
			l = append(l, c)
		}
	}
	return l
}

// P18.5: all derivatives are 0, and the sums of the components.
func TestOffsets(t *testing.T) {
	some(600, func(r *rand.Rand) {
		images := 1 + r.Intn(16)
		wantOffsets(t, images, randomCommon(r, images))
	})
	for _, c := range []struct {
		images int
		common []api.Common
		want   string
	}{
		{1, nil, "0"},
		{3, []api.Common{}, "0 0 0"},
		{2, []api.Common{{A: 0, B: 1, Diff: 6, Weight: 1}}, "3 -3"},
		{2, []api.Common{{A: 1, B: 0, Diff: 6, Weight: 1}}, "-3 3"},
		{2, []api.Common{{A: 0, B: 1, Diff: 6, Weight: 1}, {A: 0, B: 1, Diff: 0, Weight: 2}}, "1 -1"},
		{2, []api.Common{{A: 0, B: 1, Diff: 6, Weight: 5}, {A: 1, B: 0, Diff: 6, Weight: 5}}, "0 0"},
		{5, []api.Common{{A: 4, B: 1, Diff: 1, Weight: 9}, {A: 0, B: 3, Diff: -2, Weight: 4096}}, "-1 -1/2 0 1 1/2"},
		{3, []api.Common{{A: 0, B: 1, Diff: 3, Weight: 1}, {A: 1, B: 2, Diff: 3, Weight: 1}, {A: 2, B: 0, Diff: 3, Weight: 1}}, "0 0 0"},
		{3, []api.Common{{A: 0, B: 1, Diff: 3, Weight: 1}, {A: 1, B: 2, Diff: 3, Weight: 1}}, "3 0 -3"},
	} {
		if l, code := radiometry.Offsets(c.images, c.common); code != api.OK || text(l...) != c.want {
			t.Errorf("Offsets(%d, %v) = %s, %d, want %s", c.images, c.common, text(l...), code, c.want)
		}
	}
	// All that there may be: 64 parts of the greatest weight and difference.
	var many []api.Common
	for i := range 64 {
		many = append(many, api.Common{A: i % 16, B: (i + 1 + i/16) % 16, Diff: 65535 - 131070*(i%2), Weight: 4096})
	}
	wantOffsets(t, 16, many)
}

// P18.5: no other offsets have a smaller sum.
func TestOffsetsLeast(t *testing.T) {
	some(200, func(r *rand.Rand) {
		images := 2 + r.Intn(6)
		common := randomCommon(r, images)
		offsets := wantOffsets(t, images, common)
		least := disagreement(common, offsets)
		for range 10 {
			var other []*big.Rat
			for _, x := range offsets {
				other = append(other, new(big.Rat).Add(x, big.NewRat(int64(r.Intn(9)-4), int64(1+r.Intn(1000)))))
			}
			if disagreement(common, other).Cmp(least) < 0 {
				t.Fatalf("Offsets(%d, %v) = %v; %v is better", images, common, offsets, other)
			}
		}
	})
}

// P18.5: consistent differences are met exactly, whatever their weights are.
func TestOffsetsConsistent(t *testing.T) {
	some(200, func(r *rand.Rand) {
		images := 2 + r.Intn(15)
		greys := make([]int, images)
		for i := range greys {
			greys[i] = r.Intn(65536)
		}
		common := randomCommon(r, images)
		for i, c := range common {
			common[i].Diff = greys[c.B] - greys[c.A]
		}
		if sum := disagreement(common, wantOffsets(t, images, common)); sum.Sign() != 0 {
			t.Fatalf("Offsets(%d, %v) miss the differences", images, common)
		}
	})
}

// P18.5: the errors, in their order: limits first, then one part after the other.
func TestOffsetsInvalid(t *testing.T) {
	good := api.Common{A: 0, B: 1, Diff: 6, Weight: 1}
	equal := api.Common{A: 1, B: 1, Diff: 6, Weight: 1}
	wide := api.Common{A: 0, B: 1, Diff: 65536, Weight: 1}
	many := slices.Repeat([]api.Common{good}, 65)
	for _, c := range []struct {
		images int
		common []api.Common
		code   api.Code
	}{
		{0, nil, api.ErrLimit},
		{-1, []api.Common{wide}, api.ErrLimit},
		{17, nil, api.ErrLimit},
		{2, many, api.ErrLimit},
		{2, append(slices.Clone(many[1:]), equal), api.ErrLimit},
		{2, many[1:], api.OK},
		{16, []api.Common{{A: 15, B: 0, Diff: -65535, Weight: 4096}}, api.OK},
		{1, []api.Common{{Weight: 1}}, api.ErrArgument},
		{1, []api.Common{good}, api.ErrRange},
		{2, []api.Common{equal}, api.ErrArgument},
		{2, []api.Common{good, equal, wide}, api.ErrArgument},
		{2, []api.Common{good, wide, equal}, api.ErrRange},
		{2, []api.Common{{A: 2, B: 2, Weight: 1}}, api.ErrRange},
		{2, []api.Common{{A: 1, B: 1, Diff: 70000, Weight: 1}}, api.ErrRange},
		{2, []api.Common{{A: 1, B: 1}}, api.ErrRange},
		{2, []api.Common{{A: 0, B: 1, Weight: 4097}}, api.ErrRange},
		{2, []api.Common{{A: 0, B: 1, Diff: -65536, Weight: 1}}, api.ErrRange},
	} {
		l, code := radiometry.Offsets(c.images, c.common)
		if code != c.code || code != api.OK && len(l) != 0 {
			t.Errorf("Offsets(%d, %v) = %s, %d, want %d", c.images, c.common, text(l...), code, c.code)
		}
	}
	for _, n := range append(far(), -1<<17, 1<<17) {
		if l, code := radiometry.Offsets(n, []api.Common{good}); code != api.ErrLimit || len(l) != 0 {
			t.Errorf("Offsets(%d): %v, %d", n, l, code)
		}
		for i := range 4 {
			c := good
			*[]*int{&c.A, &c.B, &c.Diff, &c.Weight}[i] = n
			if l, code := radiometry.Offsets(2, []api.Common{good, c}); code != api.ErrRange || len(l) != 0 {
				t.Errorf("Offsets(%v): %v, %d", c, l, code)
			}
		}
	}
	for _, c := range []api.Common{{A: -1, B: 1, Weight: 1}, {A: 0, B: -1, Weight: 1}, {A: 3, B: 1, Weight: 1}, {A: 0, B: 3, Weight: 1}, {A: 0, B: 1, Weight: -1}} {
		if l, code := radiometry.Offsets(3, []api.Common{c}); code != api.ErrRange || len(l) != 0 {
			t.Errorf("Offsets(%v): %v, %d", c, l, code)
		}
	}
}
