package track_test

import (
	"math"
	"math/rand"
	"slices"
	"testing"

	"fiducial/api"
	"fiducial/track"
)

// P26.6: whatever is not exactly the tracks is ErrProof.
func TestCheckTracks(t *testing.T) {
	wrong := 0
	some(1500, func(r *rand.Rand) {
		ties := random(r)
		tracks := chaining(ties).tracks()
		if len(tracks) == 0 {
			return
		}
		i := r.Intn(len(tracks))
		others := map[string][][]api.Mark{
			"nothing":       nil,
			"one less":      slices.Delete(copied(tracks), i, i+1),
			"one twice":     slices.Insert(copied(tracks), i, tracks[i]),
			"an empty one":  slices.Insert(copied(tracks), i, nil),
			"a mark alone":  append(copied(tracks), []api.Mark{mark(63, 17)}),
			"a mark less":   copied(tracks),
			"a mark twice":  copied(tracks),
			"other order":   copied(tracks),
			"other mark":    copied(tracks),
			"other feature": copied(tracks),
		}
		k := r.Intn(len(tracks[i]))
		others["a mark less"][i] = slices.Delete(slices.Clone(tracks[i]), k, k+1)
		others["a mark twice"][i] = slices.Insert(slices.Clone(tracks[i]), k, tracks[i][k])
		slices.Reverse(others["other order"][i])
		others["other mark"][i][k].Image = 62
		others["other feature"][i][k].Feature = 77
		if len(tracks) > 1 {
			exchanged := copied(tracks)
			j := (i + 1) % len(tracks)
			exchanged[i], exchanged[j] = exchanged[j], exchanged[i]
			others["exchanged"] = exchanged
			others["joined"] = append(slices.Delete(copied(tracks), max(i, j), max(i, j)+1), nil)
			others["joined"][min(i, j)] = slices.Concat(tracks[i], tracks[j])
			others["joined"] = others["joined"][:len(tracks)-1]
		}
		for what, other := range others {
			if code := track.CheckTracks(ties, other); code != api.ErrProof {
				t.Fatalf("%s: CheckTracks(%v, %v) = %d", what, ties, other, code)
			}
			wrong++
		}
	})
	if wrong < 10000 {
		t.Errorf("%d wrong lists", wrong)
	}
	for _, none := range [][][]api.Mark{nil, {}} {
		if code := track.CheckTracks(nil, none); code != api.OK {
			t.Errorf("CheckTracks of nothing: %d", code)
		}
	}
	if code := track.CheckTracks(nil, [][]api.Mark{nil}); code != api.ErrProof {
		t.Errorf("CheckTracks of an empty track: %d", code)
	}
}

// P26.6: tracks with at least so many marks, of any lists.
func TestPrune(t *testing.T) {
	some(1000, func(r *rand.Rand) {
		tracks := anyTracks(r, 60)
		before := copied(tracks)
		for _, least := range []int{math.MinInt, -1, 0, 1, 2, 3, 4, 5, 6, math.MaxInt} {
			var want [][]api.Mark
			for _, marks := range tracks {
				if len(marks) >= least {
					want = append(want, marks)
				}
			}
			got := track.Prune(tracks, least)
			if !same(got, want) {
				t.Fatalf("Prune(%v, %d) = %v", tracks, least, got)
			}
			for _, marks := range got {
				overwrite(marks)
			}
			if !same(tracks, before) {
				t.Fatal("Prune shares memory")
			}
		}
	})
	if got := track.Prune([][]api.Mark{nil, {mark(-5, math.MaxInt)}}, 0); len(got) != 2 || len(got[0]) > 0 || got[1][0] != mark(-5, math.MaxInt) {
		t.Errorf("Prune = %v", got)
	}
}

// P26.6: the tracks that two images see, of any lists and for any numbers.
func TestCommon(t *testing.T) {
	found := 0
	some(2000, func(r *rand.Rand) {
		tracks := anyTracks(r, 5)
		if len(tracks) > 0 && r.Intn(2) == 0 {
			tracks[0] = append(tracks[0], mark(pick(r, -1, -7, math.MinInt, math.MaxInt), 0))
		}
		a, b := r.Intn(5), pick(r, r.Intn(5), r.Intn(5), r.Intn(5), -1, math.MinInt, math.MaxInt, 64)
		var want []int
		for i, marks := range tracks {
			isA, isB := false, false
			for _, m := range marks {
				isA, isB = isA || m.Image == a, isB || m.Image == b
			}
			if isA && isB {
				want = append(want, i)
			}
		}
		got, turned := track.Common(tracks, a, b), track.Common(tracks, b, a)
		if !slices.Equal(got, want) || !slices.Equal(turned, want) {
			t.Fatalf("Common(%v, %d, %d) = %v, %v", tracks, a, b, got, turned)
		}
		found += len(want)
	})
	if found < 600 {
		t.Errorf("%d found", found)
	}
}

// P26.6: Cover counts what Common lists, of any lists of images that there are.
func TestCover(t *testing.T) {
	some(1500, func(r *rand.Rand) {
		images := pick(r, 1, 2, 3, 4, 5, 64)
		tracks := anyTracks(r, images)
		got, code := track.Cover(tracks, images)
		if code != api.OK || len(got) != images {
			t.Fatalf("Cover(%v, %d) = %v, %d", tracks, images, got, code)
		}
		for a, row := range got {
			if len(row) != images {
				t.Fatalf("row %v", row)
			}
			for b, n := range row {
				if n != len(track.Common(tracks, a, b)) || n != got[b][a] {
					t.Fatalf("Cover(%v, %d)[%d][%d] = %d", tracks, images, a, b, n)
				}
			}
		}
	})
	// The chapter's first example has three images, each with the others.
	got, code := track.Cover([][]api.Mark{{mark(0, 1), mark(1, 1), mark(2, 1)}, {mark(2, 5), mark(2, 6), mark(0, 0)}, nil}, 4)
	want := [][]int{{2, 1, 2, 0}, {1, 1, 1, 0}, {2, 1, 2, 0}, {0, 0, 0, 0}}
	if code != api.OK || !slices.EqualFunc(got, want, slices.Equal[[]int]) {
		t.Errorf("Cover = %v, %d", got, code)
	}
	for i := range got {
		overwrite(got[i])
		for j := range got {
			if j != i && j > i && !slices.Equal(got[j], want[j]) {
				t.Errorf("rows %d and %d share memory", i, j)
			}
		}
	}
}

// P26.6: the errors of Cover: the limits before the marks.
func TestCoverErrors(t *testing.T) {
	for _, c := range []struct {
		tracks [][]api.Mark
		images int
		want   api.Code
	}{
		{nil, 0, api.ErrLimit},
		{nil, -1, api.ErrLimit},
		{nil, 65, api.ErrLimit},
		{nil, math.MinInt, api.ErrLimit},
		{nil, math.MaxInt, api.ErrLimit},
		{nil, 1, api.OK},
		{nil, 64, api.OK},
		{make([][]api.Mark, 256), 1, api.OK},
		{make([][]api.Mark, 257), 1, api.ErrLimit},
		{[][]api.Mark{{mark(0, 0)}}, 0, api.ErrLimit},
		{[][]api.Mark{{mark(-1, 0)}}, 65, api.ErrLimit},
		{append(make([][]api.Mark, 256), []api.Mark{mark(-1, 0)}), 64, api.ErrLimit},
		{append(make([][]api.Mark, 255), []api.Mark{mark(-1, 0)}), 64, api.ErrRange},
		{[][]api.Mark{{mark(0, 0)}, {mark(2, 0), mark(3, 0)}}, 3, api.ErrRange},
		{[][]api.Mark{{mark(0, 0)}, {mark(2, 0), mark(3, 0)}}, 4, api.OK},
		{[][]api.Mark{{mark(math.MinInt, 0)}}, 64, api.ErrRange},
		{[][]api.Mark{{mark(math.MaxInt, 0)}}, 64, api.ErrRange},
		{[][]api.Mark{{mark(63, -1)}}, 64, api.OK},
		{[][]api.Mark{{mark(64, 0)}}, 64, api.ErrRange},
	} {
		if got, code := track.Cover(c.tracks, c.images); code != c.want || code != api.OK && len(got) > 0 {
			t.Errorf("Cover of %d tracks, %d images: %v, %d, want %d", len(c.tracks), c.images, got, code, c.want)
		}
	}
}

// overwrite changes all that a list shows of its memory, and what an append would write behind it.
func overwrite[T any](l []T) {
	var zero T
	for i := range l {
		l[i] = zero
	}
	_ = append(l, zero)
}

// Results are new memory, and arguments stay as they are.
func TestNothingIsShared(t *testing.T) {
	some(300, func(r *rand.Rand) {
		ties := random(r)
		before := slices.Clone(ties)
		tracks, _ := track.Chain(ties)
		saved := copied(tracks)
		for i, marks := range tracks {
			overwrite(marks)
			if !same(tracks[i+1:], saved[i+1:]) {
				t.Fatal("tracks share memory")
			}
		}
		refused, _ := track.Refused(ties)
		overwrite(refused)
		if !slices.Equal(ties, before) {
			t.Fatal("ties are changed")
		}
		if again, _ := track.Chain(ties); !same(again, saved) {
			t.Fatal("later calls are changed")
		}
	})
}
