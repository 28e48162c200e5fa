package neighbour_test

import (
	"cmp"
	"math/rand"
	"slices"
	"testing"

	"fiducial/api"
	"fiducial/neighbour"
)

// wantMatches fails the test if Matches does not return the matches of two lists.
func wantMatches(t *testing.T, a, b []uint64, num, den int) []api.Match {
	t.Helper()
	before, other := slices.Clone(a), slices.Clone(b)
	want := matchesOf(a, b, num, den)
	got, code := neighbour.Matches(a, b, num, den)
	if code != api.OK || !slices.Equal(got, want) {
		t.Fatalf("Matches(%x, %x, %d, %d) = %v, %d, want %v", a, b, num, den, got, code, want)
	}
	if !slices.Equal(a, before) || !slices.Equal(b, other) {
		t.Fatalf("Matches(%x, %x) has changed a list", before, other)
	}
	return got
}

// ratio is a number of a ratio.
func ratio(r *rand.Rand) int { return pick(r, 1, 2, 3, 1+r.Intn(10), 1+r.Intn(1000), 999, 1000) }

// P22.4: the matches by their definition; exchanging the lists exchanges the pairs.
func TestMatches(t *testing.T) {
	count, lost := 0, 0
	some(3000, func(r *rand.Rand) {
		a, b := related(r)
		num, den := ratio(r), ratio(r)
		got := wantMatches(t, a, b, num, den)
		count += len(got)
		lost += len(matchesOf(a, b, 1000, 1)) - len(got)
		exchanged := make([]api.Match, len(got))
		for i, m := range got {
			exchanged[i] = api.Match{First: m.Second, Second: m.First, Distance: m.Distance}
		}
		slices.SortFunc(exchanged, func(m, n api.Match) int { return cmp.Compare(m.First, n.First) })
		if back, code := neighbour.Matches(b, a, num, den); code != api.OK || !slices.Equal(back, exchanged) {
			t.Fatalf("Matches(%x, %x, %d, %d) = %v, %d, want %v", b, a, num, den, back, code, exchanged)
		}
	})
	if count < 3000 || lost < 1000 {
		t.Errorf("%d matches, %d lost by the ratio", count, lost)
	}
}

// P22.4: all pairs of short lists of words with two bits.
func TestMatchesAll(t *testing.T) {
	list := func(n int) (l []uint64) {
		for ; n > 0; n /= 5 {
			if n%5 > 0 {
				l = append(l, uint64(n%5-1))
			}
		}
		return l
	}
	for n := range 125 {
		for m := range 125 {
			for _, q := range [][2]int{{1, 1}, {1, 2}, {2, 1}, {3, 4}} {
				wantMatches(t, list(n), list(m), q[0], q[1])
			}
		}
	}
}

// P22.4: a smaller ratio gains no pair.
func TestMatchesRatio(t *testing.T) {
	some(2000, func(r *rand.Rand) {
		a, b := related(r)
		last := [2]int{1000, 1}
		all := wantMatches(t, a, b, last[0], last[1])
		for range 8 {
			q := [2]int{ratio(r), ratio(r)}
			if q[0]*last[1] > q[1]*last[0] {
				continue
			}
			fewer, code := neighbour.Matches(a, b, q[0], q[1])
			for _, m := range fewer {
				if code != api.OK || !slices.Contains(all, m) {
					t.Fatalf("Matches(%x, %x) with %v: %v, with %v: %v", a, b, last, all, q, fewer)
				}
			}
			all, last = fewer, q
		}
	})
}

// P22.4: the ratio test counts the other words of both lists, and equality passes it.
func TestMatchesExamples(t *testing.T) {
	for _, c := range []struct {
		a, b     []uint64
		num, den int
		want     []api.Match
	}{
		{[]uint64{0, 15}, []uint64{1, 7}, 1, 1, []api.Match{{First: 0, Second: 0, Distance: 1}, {First: 1, Second: 1, Distance: 1}}},
		{[]uint64{0, 15}, []uint64{1, 7}, 1, 4, nil},
		{[]uint64{0, 15}, []uint64{1, 7}, 1, 3, []api.Match{{First: 0, Second: 0, Distance: 1}, {First: 1, Second: 1, Distance: 1}}},
		{[]uint64{0, 15}, []uint64{1, 7}, 333, 1000, nil},
		{[]uint64{0, 15}, []uint64{1, 7}, 334, 1000, []api.Match{{First: 0, Second: 0, Distance: 1}, {First: 1, Second: 1, Distance: 1}}},
		{[]uint64{0}, []uint64{1<<64 - 1}, 1, 1000, []api.Match{{First: 0, Second: 0, Distance: 64}}},
		// One word has no others, but its counterpart has.
		{[]uint64{0}, []uint64{1, 7}, 1, 3, []api.Match{{First: 0, Second: 0, Distance: 1}}},
		{[]uint64{0}, []uint64{1, 7}, 1, 4, nil},
		{[]uint64{1, 7}, []uint64{0}, 1, 4, nil},
		// Two equal words: the first one is nearest, and the other one is as near.
		{[]uint64{5, 5}, []uint64{5}, 1, 1000, []api.Match{{First: 0, Second: 0, Distance: 0}}},
		{[]uint64{5, 5}, []uint64{4}, 1, 1, []api.Match{{First: 0, Second: 0, Distance: 1}}},
		{[]uint64{5, 5}, []uint64{4}, 999, 1000, nil},
		{[]uint64{5, 5}, []uint64{5, 5}, 1, 1, []api.Match{{First: 0, Second: 0, Distance: 0}}},
		{nil, []uint64{5}, 1, 1, nil},
		{[]uint64{5}, nil, 1, 1, nil},
		{nil, nil, 1000, 1000, nil},
	} {
		if got := wantMatches(t, c.a, c.b, c.num, c.den); !slices.Equal(got, c.want) {
			t.Errorf("Matches(%x, %x, %d, %d) = %v, want %v", c.a, c.b, c.num, c.den, got, c.want)
		}
	}
}

// P22.5: changing the same bits of all words changes no match.
func TestMatchesChanged(t *testing.T) {
	some(3000, func(r *rand.Rand) {
		a, b := related(r)
		num, den := ratio(r), ratio(r)
		want, code := neighbour.Matches(a, b, num, den)
		mask := r.Uint64()
		for i := range a {
			a[i] ^= mask
		}
		for j := range b {
			b[j] ^= mask
		}
		if got, codeAfter := neighbour.Matches(a, b, num, den); code != api.OK || codeAfter != api.OK || !slices.Equal(got, want) {
			t.Fatalf("Matches(%x, %x, %d, %d) = %v, before %x was changed: %v", a, b, num, den, got, mask, want)
		}
	})
}

// hasEqual reports whether two distances from one word to a list are equal.
func hasEqual(from, to []uint64) bool {
	for _, w := range from {
		seen := map[int]bool{}
		for _, v := range to {
			if seen[distanceOf(v, w)] {
				return true
			}
			seen[distanceOf(v, w)] = true
		}
	}
	return false
}

// P22.5: a permutation of the lists permutes the matches.
func TestMatchesPermuted(t *testing.T) {
	count := 0
	some(6000, func(r *rand.Rand) {
		a, b := make([]uint64, 1+r.Intn(5)), make([]uint64, 1+r.Intn(5))
		for i := range a {
			a[i] = randomWord(r, 64)
		}
		for j := range b {
			b[j] = pick(r, a...) ^ randomWord(r, 64)&randomWord(r, 64)
		}
		if hasEqual(a, b) || hasEqual(b, a) {
			return
		}
		num, den := ratio(r), ratio(r)
		matches := wantMatches(t, a, b, num, den)
		p, q := r.Perm(len(a)), r.Perm(len(b))
		c, d := make([]uint64, len(a)), make([]uint64, len(b))
		for i := range a {
			c[p[i]] = a[i]
		}
		for j := range b {
			d[q[j]] = b[j]
		}
		var want []api.Match
		for _, m := range matches {
			want = append(want, api.Match{First: p[m.First], Second: q[m.Second], Distance: m.Distance})
		}
		slices.SortFunc(want, func(m, n api.Match) int { return cmp.Compare(m.First, n.First) })
		if got, code := neighbour.Matches(c, d, num, den); code != api.OK || !slices.Equal(got, want) {
			t.Fatalf("Matches(%x, %x, %d, %d) = %v, %d, want %v", c, d, num, den, got, code, want)
		}
		count += len(want)
	})
	if count < 500 {
		t.Errorf("%d matches", count)
	}
}

// P22.4: lists that are too long, a before b, then numbers outside their ranges.
func TestMatchesInvalid(t *testing.T) {
	for _, c := range [][2]int{{65, 0}, {65, 65}, {0, 65}, {64, 65}, {65, 64}} {
		for _, n := range []int{0, 1} {
			if l, code := neighbour.Matches(make([]uint64, c[0]), make([]uint64, c[1]), n, n); len(l) != 0 || code != api.ErrLimit {
				t.Errorf("Matches of %v words with %d = %v, %d", c, n, l, code)
			}
		}
	}
	for _, n := range append(far(), 0, -1, 1001) {
		for _, q := range [][2]int{{n, 1}, {1, n}, {n, n}, {n, 1000}} {
			for _, l := range [][]uint64{nil, {1}, make([]uint64, 64)} {
				if got, code := neighbour.Matches(l, l, q[0], q[1]); len(got) != 0 || code != api.ErrRange {
					t.Errorf("Matches with %v = %v, %d", q, got, code)
				}
			}
		}
	}
	l := make([]uint64, 64)
	for i := range l {
		l[i] = 1<<i - 1
	}
	if got := wantMatches(t, l, l, 1000, 1000); len(got) != 64 {
		t.Errorf("Matches of 64 words = %v", got)
	}
}
