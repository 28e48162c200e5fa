package descriptor_test

import (
	"math/rand"
	"slices"
	"testing"

	"fiducial/api"
	"fiducial/descriptor"
)

// P21.1: what is a pattern, and what is none.
func TestCheck(t *testing.T) {
	some(2000, func(r *rand.Rand) {
		p := randomPattern(r)
		before := slices.Clone(p)
		if code := descriptor.Check(p); code != api.OK || !slices.Equal(p, before) {
			t.Fatalf("Check(%v) = %d", before, code)
		}
	})
	for _, p := range invalidPatterns() {
		if code := descriptor.Check(p); code != api.ErrArgument {
			t.Errorf("Check(%v) = %d", p, code)
		}
	}
}

// P21.1: all boxes near the ends of the ranges of their numbers.
func TestCheckBoxes(t *testing.T) {
	good := [4]int{-16, 16, 1, 1}
	for first := -20; first <= 20; first++ {
		for count := -2; count <= 12; count++ {
			want := api.ErrArgument
			if count >= 1 && count <= 8 && first >= -16 && first+count-1 <= 16 {
				want = api.OK
			}
			for _, b := range [][4]int{{first, 0, count, 1}, {0, first, 1, count}, {first, -first, count, 1}} {
				wants := want
				if b[1] < -16 || b[1] > 16 {
					wants = api.ErrArgument
				}
				for _, p := range [][]descriptor.Test{one(b, good), one(good, b), append(beside(), one(good, b)...)} {
					if code := descriptor.Check(p); code != wants {
						t.Errorf("Check(%v) = %d, want %d", p, code, wants)
					}
				}
			}
		}
	}
	for n := range 70 {
		if code := descriptor.Check(slices.Repeat(beside(), n)); (code == api.OK) != (n >= 1 && n <= 64) {
			t.Errorf("Check of %d tests: %d", n, code)
		}
	}
}

// P21.1: the standard pattern: A goes through the rows of a square, B in steps of 3 and 5 through the numbers from 4 down to -4.
func TestStandard(t *testing.T) {
	p := descriptor.Standard()
	if len(p) != 64 || descriptor.Check(p) != api.OK {
		t.Fatalf("Standard() = %v", p)
	}
	i, across, down := 0, 1, 2
	for y := -4; y < 4; y++ {
		for x := -4; x < 4; x++ {
			if want := (descriptor.Test{A: [4]int{x, y, 1, 1}, B: [4]int{4 - across, 4 - down, 1, 1}}); p[i] != want {
				t.Errorf("test %d is %v, want %v", i, p[i], want)
			}
			if i++; across >= 6 {
				across -= 9
			}
			if down >= 4 {
				down -= 9
			}
			across, down = across+3, down+5
		}
	}
	p[5].A[0] = 99
	if again := descriptor.Standard(); again[5].A != [4]int{1, -4, 1, 1} || again[63] != (descriptor.Test{A: [4]int{3, 3, 1, 1}, B: [4]int{3, 2, 1, 1}}) {
		t.Errorf("Standard() = %v", again)
	}
}

// P21.1: the distance is the number of bits that differ, and a metric.
func TestDistance(t *testing.T) {
	some(20000, func(r *rand.Rand) {
		word := func() uint64 { return pick(r, r.Uint64(), r.Uint64()&r.Uint64()&r.Uint64(), 0, 1<<63, 1<<64-1) }
		a, b, c := word(), word(), word()
		want := 0
		for i := range 64 {
			if a>>i&1 != b>>i&1 {
				want++
			}
		}
		ab, bc, ac := descriptor.Distance(a, b), descriptor.Distance(b, c), descriptor.Distance(a, c)
		if ab != want || descriptor.Distance(b, a) != ab || (ab == 0) != (a == b) || ac > ab+bc {
			t.Fatalf("Distance(%x, %x) = %d, want %d", a, b, ab, want)
		}
	})
	if descriptor.Distance(5, 6) != 2 || descriptor.Distance(0, 1<<64-1) != 64 || descriptor.Distance(7, 7) != 0 {
		t.Error("distances of the examples")
	}
}

// P21.4: the turned pattern; four turns change nothing.
func TestTurned(t *testing.T) {
	some(2000, func(r *rand.Rand) {
		p := randomPattern(r)
		want, before := turnedOf(p), slices.Clone(p)
		got, code := descriptor.Turned(p)
		if code != api.OK || !slices.Equal(got, want) || descriptor.Check(got) != api.OK {
			t.Fatalf("Turned(%v) = %v, %d, want %v", p, got, code, want)
		}
		four := got
		for range 3 {
			four, _ = descriptor.Turned(four)
		}
		for i := range got {
			got[i] = descriptor.Test{}
		}
		if !slices.Equal(p, before) || !slices.Equal(four, before) {
			t.Fatalf("Turned(%v) four times: %v; the pattern is now %v", before, four, p)
		}
	})
	got, code := descriptor.Turned(one([4]int{1, 0, 2, 1}, [4]int{-16, 9, 8, 8}))
	if code != api.OK || !slices.Equal(got, one([4]int{0, -2, 1, 2}, [4]int{9, 9, 8, 8})) {
		t.Errorf("Turned = %v, %d", got, code)
	}
	for _, p := range invalidPatterns() {
		if got, code := descriptor.Turned(p); code != api.ErrArgument || len(got) != 0 {
			t.Errorf("Turned(%v) = %v, %d", p, got, code)
		}
	}
}
