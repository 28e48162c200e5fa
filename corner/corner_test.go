package corner_test

import (
	"math"
	"math/rand"
	"slices"
	"testing"

	"fiducial/api"
	"fiducial/corner"
)

// square is the raster of the chapter's example.
func square() api.Raster {
	return drawn(5, 5, 255, func(x, y int) int {
		if x >= 2 && y >= 2 {
			return 10
		}
		return 0
	})
}

// wantScores fails the test if Scores does not return the scores.
func wantScores(t *testing.T, a api.Raster) []int {
	t.Helper()
	before := slices.Clone(a.Pixels)
	got, code := corner.Scores(a)
	want := drawn(a.Width, a.Height, a.Max, func(x, y int) int { return scoreOf(a, x, y) }).Pixels
	if code != api.OK || !slices.Equal(got, want) || !slices.Equal(a.Pixels, before) {
		t.Fatalf("Scores(%v) = %v, %d, want %v", a, got, code, want)
	}
	return got
}

// P20.1: the scores of all pixels, by their definition.
func TestScores(t *testing.T) {
	signs := map[bool]int{}
	some(700, func(r *rand.Rand) {
		for _, s := range wantScores(t, random(r)) {
			if s != 0 {
				signs[s > 0]++
			}
		}
	})
	if signs[true] < 1000 || signs[false] < 1000 {
		t.Errorf("scores above and below 0: %v", signs)
	}
	want := make([]int, 25)
	want[12] = 3110000
	if got, code := corner.Scores(square()); code != api.OK || !slices.Equal(got, want) {
		t.Errorf("Scores = %v, %d", got, code)
	}
	// An edge has the score -(A + C)^2.
	if got, code := corner.Scores(drawn(5, 5, 9, func(x, y int) int { return 3 * (x / 2) })); code != api.OK || got[12] != -81*81 {
		t.Errorf("Scores of an edge: %v, %d", got, code)
	}
}

// P20.1: rasters of all small sizes; those with less than five rows or columns have no scores but 0.
func TestScoresOfSizes(t *testing.T) {
	some(20, func(r *rand.Rand) {
		for i := range 64 {
			a := drawn(1+i%8, 1+i/8, 1023, func(x, y int) int { return r.Intn(1024) })
			got := wantScores(t, a)
			if isFlat := slices.Max(got) == 0 && slices.Min(got) == 0; isFlat != (a.Width < 5 || a.Height < 5) {
				t.Fatalf("Scores(%v) = %v", a, got)
			}
		}
	})
}

// P20.1: the greatest and the least scores that there are.
func TestScoresGreat(t *testing.T) {
	great := 0
	some(3000, func(r *rand.Rand) {
		a := drawn(5, 5, 1023, func(x, y int) int { return pick(r, 0, 1023) })
		great = max(great, wantScores(t, a)[12])
	})
	for _, a := range []api.Raster{
		drawn(64, 64, 1023, func(x, y int) int { return 1023 * (x / 2 % 2) }),
		drawn(64, 64, 1023, func(x, y int) int { return 1023 * ((x/2 + y/2) % 2) }),
		drawn(64, 64, 1023, func(x, y int) int { return 1023 * ((x + y) / 2 % 2) }),
		drawn(64, 5, 1023, func(x, y int) int { return 1023 * (x / 3 % 2) * (y / 3 % 2) }),
	} {
		great = max(great, slices.Max(wantScores(t, a)))
	}
	// The products of its sums exceed 2^47, so that the limit of grey values matters.
	if great < 1<<48 {
		t.Errorf("the greatest score is %d", great)
	}
}

// P20.2: the corners of the peaks, in their order; also among equal scores.
func TestFind(t *testing.T) {
	equal, numbers := map[[2]int]int{}, map[int]int{}
	some(700, func(r *rand.Rand) {
		a := random(r)
		before := slices.Clone(a.Pixels)
		all := cornersOf(peaksOf(a, 0, equal))
		threshold := 0
		if len(all) > 0 && r.Intn(2) == 0 {
			threshold = all[r.Intn(len(all))].Score - r.Intn(2)
		}
		want := cornersOf(peaksOf(a, threshold, map[[2]int]int{}))
		for _, most := range []int{0, 1, len(want) - 1, len(want), len(want) + 1, 4096} {
			if most < 0 {
				continue
			}
			got, code := corner.Find(a, threshold, most)
			if code != api.OK || !slices.Equal(got, want[:min(most, len(want))]) || !slices.Equal(a.Pixels, before) {
				t.Fatalf("Find(%v, %d, %d) = %v, %d, want %v", a, threshold, most, got, code, want)
			}
		}
		numbers[min(len(want), 3)]++
	})
	for _, d := range [][2]int{{1, 0}, {-1, 1}, {0, 1}, {1, 1}} {
		if equal[d] < 20 {
			t.Errorf("peaks with neighbours of an equal score: %v", equal)
		}
	}
	if numbers[0] < 50 || numbers[1] < 50 || numbers[3] < 50 {
		t.Errorf("numbers of corners: %v", numbers)
	}
}

// P20.2: the example of the chapter; the score must be above the threshold.
func TestFindThreshold(t *testing.T) {
	for _, c := range []struct {
		threshold, most int
		want            []api.Corner
	}{
		{0, 1, []api.Corner{{X: 160, Y: 160, Score: 3110000}}},
		{3109999, 4096, []api.Corner{{X: 160, Y: 160, Score: 3110000}}},
		{3110000, 4096, nil},
		{math.MaxInt, 4096, nil},
		{0, 0, nil},
	} {
		if got, code := corner.Find(square(), c.threshold, c.most); code != api.OK || !slices.Equal(got, c.want) {
			t.Errorf("Find with %d, %d = %v, %d", c.threshold, c.most, got, code)
		}
	}
}

// P20.2: many corners with equal scores are in the order of their pixels, and the first ones are returned.
func TestFindOrder(t *testing.T) {
	a := drawn(64, 64, 255, func(x, y int) int {
		if x%6 < 3 && y%6 < 3 {
			return 200
		}
		return 0
	})
	want := cornersOf(peaksOf(a, 0, map[[2]int]int{}))
	if len(want) < 100 || want[0].Score != want[len(want)/2].Score {
		t.Fatalf("%d corners", len(want))
	}
	for most := range len(want) + 2 {
		if got, code := corner.Find(a, 0, most); code != api.OK || !slices.Equal(got, want[:min(most, len(want))]) {
			t.Fatalf("Find with %d: %v, %d", most, got, code)
		}
	}
}

// P20.5: an added number or the negative changes no score, a factor changes them by its fourth power.
func TestScoresOfGreys(t *testing.T) {
	some(400, func(r *rand.Rand) {
		a := random(r)
		want := wantScores(t, a)
		change := func(most int, grey func(p int) int) api.Raster {
			return drawn(a.Width, a.Height, most, func(x, y int) int { return grey(pixel(a, x, y)) })
		}
		n := r.Intn(1024 - a.Max)
		for _, b := range []api.Raster{change(a.Max+n, func(p int) int { return p + n }), change(a.Max, func(p int) int { return a.Max - p })} {
			if got, code := corner.Scores(b); code != api.OK || !slices.Equal(got, want) {
				t.Fatalf("Scores(%v) = %v, %d, Scores(%v) = %v", b, got, code, a, want)
			}
		}
		k := 1 + r.Intn(1023/a.Max)
		got, code := corner.Scores(change(k*a.Max, func(p int) int { return k * p }))
		for i, s := range got {
			if code != api.OK || s != k*k*k*k*want[i] {
				t.Fatalf("Scores(%d times %v) = %v, %d", k, a, got, code)
			}
		}
	})
}

// P20.6: exchanged rows and columns.
func TestScoresExchanged(t *testing.T) {
	some(400, func(r *rand.Rand) {
		a := random(r)
		b := drawn(a.Height, a.Width, a.Max, func(x, y int) int { return pixel(a, y, x) })
		p, q := wantScores(t, a), wantScores(t, b)
		for i, s := range p {
			if q[i%a.Width*a.Height+i/a.Width] != s {
				t.Fatalf("Scores(%v) = %v, Scores(%v) = %v", a, p, b, q)
			}
		}
	})
}

// P20.7: no corners where grey values change in one direction only, or not at all.
func TestNoCorners(t *testing.T) {
	some(400, func(r *rand.Rand) {
		line := make([]int, 64)
		for i := range line {
			line[i] = pick(r, 0, 1023, r.Intn(1024))
		}
		width, height := size(r), size(r)
		for _, a := range []api.Raster{
			drawn(width, height, 1023, func(x, y int) int { return line[x] }),
			drawn(width, height, 1023, func(x, y int) int { return line[y] }),
			drawn(width, height, 1023, func(x, y int) int { return line[0] }),
		} {
			if scores := wantScores(t, a); slices.Max(scores) > 0 {
				t.Fatalf("Scores(%v) = %v", a, scores)
			}
			if l, code := corner.Find(a, 0, 4096); code != api.OK || len(l) != 0 {
				t.Fatalf("Find(%v) = %v, %d", a, l, code)
			}
		}
	})
}

// P20.1, P20.2: no raster, then too great grey values, then threshold and number.
func TestInvalid(t *testing.T) {
	expect := func(a api.Raster, want api.Code) {
		t.Helper()
		if l, code := corner.Scores(a); code != want || len(l) != 0 {
			t.Errorf("Scores(%v) = %v, %d, want %d", a, l, code, want)
		}
		for _, most := range []int{1, -1, 5000} {
			for _, threshold := range []int{0, -1} {
				if l, code := corner.Find(a, threshold, most); code != want || len(l) != 0 {
					t.Errorf("Find(%v, %d, %d) = %v, %d, want %d", a, threshold, most, l, code, want)
				}
			}
		}
	}
	for _, a := range invalidRasters() {
		expect(a, api.ErrArgument)
	}
	for _, most := range []int{1024, 1025, 65535} {
		a := square()
		a.Max = most
		expect(a, api.ErrLimit)
	}
	a := square()
	a.Max = 1023
	if got, code := corner.Find(a, 0, 4096); code != api.OK || len(got) != 1 {
		t.Errorf("Find = %v, %d", got, code)
	}
	for _, c := range [][2]int{{-1, 1}, {math.MinInt, 1}, {0, -1}, {0, math.MinInt}, {0, 4097}, {0, math.MaxInt}, {-1, -1}, {math.MaxInt, 4097}} {
		if got, code := corner.Find(a, c[0], c[1]); code != api.ErrRange || len(got) != 0 {
			t.Errorf("Find with %d, %d = %v, %d", c[0], c[1], got, code)
		}
	}
}
