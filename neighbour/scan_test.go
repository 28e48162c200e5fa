package neighbour_test

import (
	"math/rand"
	"slices"
	"testing"

	"fiducial/api"
	"fiducial/neighbour"
)

// P22.1: the distance is the number of bits that differ.
func TestDistance(t *testing.T) {
	some(20000, func(r *rand.Rand) {
		bits := randomBits(r)
		a, b := randomWord(r, bits), randomWord(r, bits)
		if d := neighbour.Distance(a, b); d != distanceOf(a, b) {
			t.Fatalf("Distance(%x, %x) = %d", a, b, d)
		}
	})
	for i := range 64 {
		if neighbour.Distance(0, 1<<i) != 1 || neighbour.Distance(1<<64-1, 1<<i) != 63 {
			t.Errorf("distances of the bit %d", i)
		}
	}
	if neighbour.Distance(0, 1<<64-1) != 64 || neighbour.Distance(9, 9) != 0 {
		t.Error("the greatest and the least distance")
	}
}

// P22.1: the nearest word, of several the one with the least index.
func TestNearest(t *testing.T) {
	equal := 0
	some(3000, func(r *rand.Rand) {
		bits := randomBits(r)
		l, w := randomList(r, bits), randomWord(r, bits)
		before := slices.Clone(l)
		index, distance, code := neighbour.Nearest(l, w)
		want := nearestOf(l, w)
		if want < 0 {
			if index != 0 || distance != 0 || code != api.ErrMissing {
				t.Fatalf("Nearest of no words = %d, %d, %d", index, distance, code)
			}
			return
		}
		if code != api.OK || index != want || distance != distanceOf(l[want], w) || !slices.Equal(l, before) {
			t.Fatalf("Nearest(%x, %x) = %d, %d, %d, want %d", l, w, index, distance, code, want)
		}
		if slices.ContainsFunc(l[index+1:], func(v uint64) bool { return distanceOf(v, w) == distance }) {
			equal++
		}
	})
	if equal < 500 {
		t.Errorf("several words are nearest %d times", equal)
	}
	l := []uint64{0, 3, 7}
	if index, distance, code := neighbour.Nearest(l, 5); index != 2 || distance != 1 || code != api.OK {
		t.Errorf("Nearest = %d, %d, %d", index, distance, code)
	}
	if index, distance, code := neighbour.Nearest(l, 1); index != 0 || distance != 1 || code != api.OK {
		t.Errorf("Nearest = %d, %d, %d", index, distance, code)
	}
}

// P22.1: all words within a distance, in the order of their indices.
func TestWithin(t *testing.T) {
	some(2000, func(r *rand.Rand) {
		bits := randomBits(r)
		l, w := randomList(r, bits), randomWord(r, bits)
		before := slices.Clone(l)
		for _, most := range append(far(), -1, 0, 1, 2, bits/2, r.Intn(65), 63, 64, 65) {
			var want []int
			for i, v := range l {
				if distanceOf(v, w) <= most {
					want = append(want, i)
				}
			}
			got, code := neighbour.Within(l, w, most)
			if code != api.OK || !slices.Equal(got, want) || !slices.Equal(l, before) {
				t.Fatalf("Within(%x, %x, %d) = %v, %d, want %v", l, w, most, got, code, want)
			}
		}
	})
}

// P22.1: lists that are too long or empty.
func TestLists(t *testing.T) {
	for _, n := range []int{65, 66, 1000} {
		l := make([]uint64, n)
		if index, distance, code := neighbour.Nearest(l, 1); index != 0 || distance != 0 || code != api.ErrLimit {
			t.Errorf("Nearest of %d words = %d, %d, %d", n, index, distance, code)
		}
		if indices, code := neighbour.Within(l, 1, 64); len(indices) != 0 || code != api.ErrLimit {
			t.Errorf("Within of %d words = %v, %d", n, indices, code)
		}
	}
	for _, l := range [][]uint64{nil, {}} {
		if index, distance, code := neighbour.Nearest(l, 1); index != 0 || distance != 0 || code != api.ErrMissing {
			t.Errorf("Nearest of no words = %d, %d, %d", index, distance, code)
		}
		if indices, code := neighbour.Within(l, 1, 64); len(indices) != 0 || code != api.OK {
			t.Errorf("Within of no words = %v, %d", indices, code)
		}
	}
	l := make([]uint64, 64)
	l[63] = 1
	if index, distance, code := neighbour.Nearest(l, 1); index != 63 || distance != 0 || code != api.OK {
		t.Errorf("Nearest of 64 words = %d, %d, %d", index, distance, code)
	}
}
