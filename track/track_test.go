package track_test

import (
	"maps"
	"math/rand"
	"slices"
	"testing"

	"fiducial/api"
	"fiducial/track"
)

// P26.1: what the chapter's example says.
func TestExample(t *testing.T) {
	a, b := tie(mark(0, 1), mark(1, 1), 5), tie(mark(1, 1), mark(2, 1), 6)
	for cost, want := range map[int]struct {
		tracks  [][]api.Mark
		refused api.Tie
	}{
		7: {[][]api.Mark{{mark(0, 1), mark(1, 1), mark(2, 1)}}, tie(mark(0, 2), mark(2, 1), 7)},
		4: {[][]api.Mark{{mark(0, 1), mark(1, 1)}, {mark(0, 2), mark(2, 1)}}, b},
	} {
		ties := []api.Tie{b, tie(mark(0, 2), mark(2, 1), cost), a}
		tracks, code := track.Chain(ties)
		refused, other := track.Refused(ties)
		if code != api.OK || other != api.OK || !same(tracks, want.tracks) || !slices.Equal(refused, []api.Tie{want.refused}) {
			t.Errorf("cost %d: %v, %d, %v, %d", cost, tracks, code, refused, other)
		}
	}
}

// codes are the codes of the functions with ties; they fail the test if there is another result together with a code.
func codes(t *testing.T, ties []api.Tie) []api.Code {
	t.Helper()
	tracks, chain := track.Chain(ties)
	refused, other := track.Refused(ties)
	if chain != api.OK && len(tracks) > 0 || other != api.OK && len(refused) > 0 {
		t.Errorf("results together with %d and %d: %v, %v", chain, other, tracks, refused)
	}
	return []api.Code{track.Check(ties), chain, other, track.CheckTracks(ties, tracks), track.CheckTracks(ties, nil), track.CheckTracks(ties, [][]api.Mark{{mark(-1, 0)}})}
}

// expect fails the test unless all functions with ties return a code.
func expect(t *testing.T, ties []api.Tie, want api.Code) {
	t.Helper()
	for i, code := range codes(t, ties) {
		if code != want {
			t.Errorf("function %d of %d ties returns %d, want %d: %v", i, len(ties), code, want, ties[:min(len(ties), 4)])
		}
	}
}

// P26.1: ties that are not valid, tie by tie, the ranges before the order.
func TestInvalid(t *testing.T) {
	good := tie(mark(0, 0), mark(63, 4095), maxCost)
	for _, bad := range outside() {
		expect(t, []api.Tie{bad}, api.ErrRange)
		expect(t, []api.Tie{good, bad, good}, api.ErrRange)
		for _, other := range reversed() {
			expect(t, []api.Tie{bad, other}, api.ErrRange)
			expect(t, []api.Tie{good, other, bad}, api.ErrOrder)
		}
	}
	for _, bad := range reversed() {
		expect(t, []api.Tie{bad}, api.ErrOrder)
		expect(t, []api.Tie{good, good, bad, good}, api.ErrOrder)
	}
}

// P26.1: the greatest number of ties, also of ties that are repeated; more are refused before all else.
func TestLimit(t *testing.T) {
	var many []api.Tie
	for i := range maxTies {
		many = append(many, tie(mark(i%8, i), mark(8+i%7, i), i/3))
	}
	if code := track.Check(many); code != api.OK {
		t.Errorf("Check of %d ties: %d", len(many), code)
	}
	if tracks, code := track.Chain(many); code != api.OK || len(tracks) != maxTies {
		t.Errorf("Chain of %d ties: %d, %d", len(many), len(tracks), code)
	}
	for _, more := range slices.Concat([]api.Tie{many[0]}, outside(), reversed()) {
		expect(t, append(slices.Clone(many), more), api.ErrLimit)
		expect(t, append([]api.Tie{more}, many...), api.ErrLimit)
	}
	if code := track.Check(slices.Repeat(many[:1], 1<<16)); code != api.ErrLimit {
		t.Errorf("Check of many more: %d", code)
	}
	if tracks, code := track.Chain(slices.Repeat(many[:1], maxTies)); code != api.OK || !same(tracks, [][]api.Mark{{mark(0, 0), mark(8, 0)}}) {
		t.Errorf("Chain of a tie that is repeated: %v, %d", tracks, code)
	}
}

// P26.1: no ties, and the ends of the ranges.
func TestEnds(t *testing.T) {
	for _, ties := range [][]api.Tie{nil, {}} {
		tracks, code := track.Chain(ties)
		refused, other := track.Refused(ties)
		if code != api.OK || other != api.OK || len(tracks) > 0 || len(refused) > 0 || track.Check(ties) != api.OK {
			t.Errorf("no ties: %v, %d, %v, %d", tracks, code, refused, other)
		}
	}
	// A track of all images.
	var ties []api.Tie
	var marks []api.Mark
	for k := range maxImages {
		marks = append(marks, mark(k, maxFeature-k%2))
		if k > 0 {
			ties = append(ties, tie(marks[k-1], marks[k], 0))
		}
	}
	// A second mark of the first or last image is refused.
	ties = append(ties, tie(mark(0, 0), marks[63], maxCost), tie(marks[0], mark(63, 0), maxCost))
	tracks, code := track.Chain(ties)
	refused, _ := track.Refused(ties)
	if code != api.OK || !same(tracks, [][]api.Mark{marks}) || !slices.Equal(refused, ties[63:]) {
		t.Errorf("%v, %d, %v", tracks, code, refused)
	}
}

// against fails the test unless Chain, Refused and CheckTracks do what the definition says.
func against(t *testing.T, ties []api.Tie) parts {
	t.Helper()
	before := slices.Clone(ties)
	want := chaining(ties)
	tracks, code := track.Chain(ties)
	refused, other := track.Refused(ties)
	if code != api.OK || !same(tracks, want.tracks()) {
		t.Fatalf("Chain(%v) = %v, %d, want %v", ties, tracks, code, want.tracks())
	}
	if other != api.OK || !slices.Equal(refused, want.refused(ties)) {
		t.Fatalf("Refused(%v) = %v, %d, want %v", ties, refused, other, want.refused(ties))
	}
	if code := track.CheckTracks(ties, want.tracks()); code != api.OK {
		t.Fatalf("CheckTracks(%v) = %d", ties, code)
	}
	if !slices.Equal(ties, before) {
		t.Fatalf("%v has become %v", before, ties)
	}
	return want
}

// P26.1: ties at random.
func TestChain(t *testing.T) {
	tracks, refused, alone, long := 0, 0, 0, 0
	some(4000, func(r *rand.Rand) {
		ties := random(r)
		p := against(t, ties)
		tracks += len(p.tracks())
		alone += len(p) - len(p.tracks())
		refused += len(p.refused(ties))
		for _, marks := range p.tracks() {
			if len(marks) > 3 {
				long++
			}
		}
	})
	if tracks < 4000 || refused < 2000 || alone < 1000 || long < 1000 {
		t.Errorf("%d tracks, %d of them long, %d ties refused, %d marks alone", tracks, long, refused, alone)
	}
}

// P26.1: all sets of ties between two features of each of three images, with equal costs and with costs that turn the order round.
func TestAllSmall(t *testing.T) {
	var all []api.Tie
	for a := range 6 {
		for b := range 6 {
			if a/2 < b/2 {
				all = append(all, tie(mark(a/2, a%2), mark(b/2, b%2), 0))
			}
		}
	}
	for set := range 1 << len(all) {
		var ties, turned []api.Tie
		for i, x := range all {
			if set>>i&1 == 1 {
				ties = append(ties, x)
				turned = append(turned, tie(x.A, x.B, len(all)-i))
			}
		}
		against(t, ties)
		against(t, turned)
	}
}

// P26.2: neither the order of the list nor repetitions matter.
func TestOrderOfList(t *testing.T) {
	some(1500, func(r *rand.Rand) {
		ties := random(r)
		tracks, _ := track.Chain(ties)
		refused, _ := track.Refused(ties)
		other := slices.Concat(ties, ties[:r.Intn(len(ties)+1)])
		r.Shuffle(len(other), func(i, j int) { other[i], other[j] = other[j], other[i] })
		again, _ := track.Chain(other)
		refusedAgain, _ := track.Refused(other)
		if !same(tracks, again) || !slices.Equal(refused, refusedAgain) {
			t.Fatalf("%v: %v, %v; %v: %v, %v", ties, tracks, refused, other, again, refusedAgain)
		}
	})
}

// P26.3: a track has a mark of an image at most, a mark lies in one track at most, and ties connect each track.
func TestTracks(t *testing.T) {
	some(1500, func(r *rand.Rand) {
		ties := random(r)
		tracks, _ := track.Chain(ties)
		refused, _ := track.Refused(ties)
		number := map[api.Mark]int{}
		for i, marks := range tracks {
			images := map[int]bool{}
			for _, m := range marks {
				if _, isTwice := number[m]; isTwice || images[m.Image] {
					t.Fatalf("%v: %v", ties, tracks)
				}
				number[m], images[m.Image] = i, true
			}
		}
		groups := map[api.Mark]api.Mark{}
		for m := range number {
			groups[m] = m
		}
		for _, x := range ties {
			a, isA := number[x.A]
			b, isB := number[x.B]
			if isWithin := isA && isB && a == b; isWithin == slices.Contains(refused, x) {
				t.Fatalf("%v: %v, %v", x, tracks, refused)
			} else if !isWithin {
				continue
			}
			old, to := groups[x.A], groups[x.B]
			for m := range groups {
				if groups[m] == old {
					groups[m] = to
				}
			}
		}
		// There are as many groups as tracks, each within one.
		left := map[api.Mark]bool{}
		for m := range maps.Values(groups) {
			left[m] = true
		}
		if len(left) != len(tracks) {
			t.Fatalf("%v: %v, not connected by the ties within them", ties, tracks)
		}
	})
}

// P26.4: renumbering the images without changing their order.
func TestRenumbered(t *testing.T) {
	some(1500, func(r *rand.Rand) {
		ties := random(r)
		numbers := r.Perm(maxImages)
		var used []int
		for _, x := range ties {
			used = append(used, x.A.Image, x.B.Image)
		}
		slices.Sort(used)
		used = slices.Compact(used)
		numbers = numbers[:len(used)]
		slices.Sort(numbers)
		renumbered := func(m api.Mark) api.Mark { return mark(numbers[slices.Index(used, m.Image)], m.Feature) }
		other := make([]api.Tie, len(ties))
		for i, x := range ties {
			other[i] = tie(renumbered(x.A), renumbered(x.B), x.Cost)
		}
		tracks, _ := track.Chain(ties)
		want := copied(tracks)
		for _, marks := range want {
			for i, m := range marks {
				marks[i] = renumbered(m)
			}
		}
		if again, _ := track.Chain(other); !same(again, want) {
			t.Fatalf("%v: %v; %v: %v", ties, tracks, other, again)
		}
	})
}

// P26.5: a tie that comes last changes nothing, or makes one of two tracks or marks.
func TestLastTie(t *testing.T) {
	joined, same := 0, 0
	some(3000, func(r *rand.Rand) {
		ties := slices.DeleteFunc(random(r), func(x api.Tie) bool { return x.Cost == maxCost })
		last := random(r)
		if len(last) == 0 {
			return
		}
		x := last[0]
		x.Cost = maxCost
		p, q := chaining(ties), chaining(append(slices.Clone(ties), x))
		before, after := textOf(p, t, ties), textOf(q, t, append(slices.Clone(ties), x))
		a, b := p.of(x.A), p.of(x.B)
		set := func(i int, m api.Mark) map[api.Mark]bool {
			if i < 0 {
				return map[api.Mark]bool{m: true}
			}
			return p[i]
		}
		one, two := set(a, x.A), set(b, x.B)
		if a >= 0 && a == b || !fit(one, two) {
			same++
			if !slices.EqualFunc(before, after, slices.Equal[[]api.Mark]) {
				t.Fatalf("%v and %v: %v, %v", ties, x, before, after)
			}
			return
		}
		joined++
		union := maps.Clone(one)
		maps.Copy(union, two)
		want := parts{union}
		for i, set := range p {
			if i != a && i != b {
				want = append(want, set)
			}
		}
		if !slices.EqualFunc(want.tracks(), after, slices.Equal[[]api.Mark]) {
			t.Fatalf("%v and %v: %v, %v", ties, x, before, after)
		}
	})
	if joined < 300 || same < 300 {
		t.Errorf("%d joined, %d not", joined, same)
	}
}

// textOf are the tracks that Chain returns, which must be those of p.
func textOf(p parts, t *testing.T, ties []api.Tie) [][]api.Mark {
	t.Helper()
	tracks, code := track.Chain(ties)
	if code != api.OK || !same(tracks, p.tracks()) {
		t.Fatalf("Chain(%v) = %v, %d", ties, tracks, code)
	}
	return tracks
}
