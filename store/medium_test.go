package store_test

import (
	"bytes"
	"fmt"
	"math"
	"math/rand"
	"slices"
	"testing"

	"fiducial/api"
	"fiducial/store"
)

// randomMedium is a valid medium with any pages and pending writes.
func randomMedium(r *rand.Rand) api.Medium {
	m := blank(8 + r.Intn(4))
	for _, page := range m.Pages {
		r.Read(page)
	}
	for range r.Intn(4) {
		m.Pending = append(m.Pending, randomWrite(r, len(m.Pages)))
	}
	m.Left = r.Intn(14) - 3
	m.Down = r.Intn(8) == 0
	return m
}

// randomWrite is an act that writes a page; some pages are written often.
func randomWrite(r *rand.Rand, pages int) api.Act {
	a := api.Act{Page: pick(r, []int{0, 1, pages - 1, r.Intn(pages)}), Data: make([]byte, 64)}
	r.Read(a.Data)
	return a
}

// randomActs are acts that are valid for a medium.
func randomActs(r *rand.Rand, pages int) []api.Act {
	var acts []api.Act
	for range r.Intn(12) {
		if r.Intn(4) == 0 {
			acts = append(acts, api.Act{Barrier: true, Data: pick(r, [][]byte{nil, {}})})
		} else {
			acts = append(acts, randomWrite(r, pages))
		}
	}
	return acts
}

// performed is what Perform should return for valid arguments: the writes before the last barrier are on the pages, the others are pending.
func performed(m api.Medium, acts []api.Act) (api.Medium, api.Code) {
	m = copyMedium(m)
	if m.Down {
		return m, api.ErrDown
	}
	code := api.OK
	if m.Left >= 0 && m.Left < len(acts) {
		acts, m.Down, code = acts[:m.Left], true, api.ErrDown
	}
	if m.Left >= 0 {
		m.Left -= len(acts)
	}
	all := append(copyActs(m.Pending), copyActs(acts)...)
	m.Pending = nil
	for i, a := range all {
		isBarrier := func(a api.Act) bool { return a.Barrier }
		if slices.ContainsFunc(all[i:], isBarrier) {
			if !a.Barrier {
				m.Pages[a.Page] = a.Data
			}
		} else {
			m.Pending = append(m.Pending, a)
		}
	}
	return m, code
}

// P14.3: acts are performed until the power fails.
func TestPerform(t *testing.T) {
	count := map[api.Code]int{}
	some(5000, func(r *rand.Rand) {
		m := randomMedium(r)
		acts := randomActs(r, len(m.Pages))
		given, givenActs := copyMedium(m), copyActs(acts)
		want, wantCode := performed(m, acts)
		got, code := store.Perform(given, givenActs)
		count[code]++
		check := func(when string) {
			t.Helper()
			if code != wantCode || !sameMedium(got, want) {
				t.Fatalf("Perform(%v, %v)%s = %v, %d, want %v, %d", m, acts, when, got, code, want, wantCode)
			}
		}
		check("")
		if !sameMedium(given, m) || !slices.EqualFunc(givenActs, acts, sameAct) {
			t.Fatal("Perform has changed its arguments")
		}
		spoilMedium(given)
		spoilActs(givenActs)
		check(" shares memory with its arguments")
		for i, a := range got.Pending {
			spoilBytes(a.Data)
			got.Pending[i] = want.Pending[i]
			check(" has writes that share memory")
		}
		for i, page := range got.Pages {
			spoilBytes(page)
			got.Pages[i] = want.Pages[i]
			check(" has pages that share memory")
		}
	})
	if min(count[api.OK], count[api.ErrDown]) < 1000 {
		t.Errorf("%v", count)
	}
}

// P14.3: the same acts at once and one after the other.
func TestPerformSteps(t *testing.T) {
	some(500, func(r *rand.Rand) {
		m := randomMedium(r)
		acts := randomActs(r, len(m.Pages))
		want, wantCode := store.Perform(m, acts)
		code := api.OK
		if m.Down {
			code = api.ErrDown
		}
		for i := 0; i < len(acts) && code == api.OK; i++ {
			m, code = store.Perform(m, acts[i:i+1])
		}
		if code != wantCode || !sameMedium(m, want) {
			t.Fatalf("step by step: %v, %d, want %v, %d", m, code, want, wantCode)
		}
	})
}

// P14.3: power failures at the edges.
func TestPerformDown(t *testing.T) {
	write, barrier := api.Act{Page: 3, Data: bytes.Repeat([]byte{7}, 64)}, api.Act{Barrier: true}
	for _, c := range []struct {
		left int
		down bool
		acts []api.Act
		want api.Code
		then int
	}{
		{0, false, nil, api.OK, 0},
		{0, false, []api.Act{write}, api.ErrDown, 0},
		{0, false, []api.Act{barrier}, api.ErrDown, 0},
		{1, false, []api.Act{write}, api.OK, 0},
		{1, false, []api.Act{barrier, write}, api.ErrDown, 0},
		{2, false, []api.Act{write}, api.OK, 1},
		{-1, false, []api.Act{write, barrier}, api.OK, -1},
		{-7, false, []api.Act{write}, api.OK, -7},
		{math.MinInt, false, []api.Act{write}, api.OK, math.MinInt},
		{math.MaxInt, false, []api.Act{write}, api.OK, math.MaxInt - 1},
		{5, true, nil, api.ErrDown, 5},
		{-1, true, []api.Act{write}, api.ErrDown, -1},
		{0, true, nil, api.ErrDown, 0},
	} {
		m := blank(8)
		m.Left, m.Down = c.left, c.down
		m.Pending = []api.Act{{Page: 2, Data: bytes.Repeat([]byte{5}, 64)}}
		want, _ := performed(m, c.acts)
		got, code := store.Perform(m, c.acts)
		if code != c.want || got.Left != c.then || got.Down != (code == api.ErrDown) || !sameMedium(got, want) {
			t.Errorf("Perform of %d acts with %d left: %v, %d", len(c.acts), c.left, got, code)
		}
	}
}

// P14.3: media and acts that are not valid, also behind a power failure.
func TestPerformInvalid(t *testing.T) {
	page := make([]byte, 64)
	refused := func(what string, m api.Medium, acts ...api.Act) {
		t.Helper()
		if got, code := store.Perform(m, acts); code != api.ErrArgument || !sameMedium(got, api.Medium{}) {
			t.Errorf("Perform, %s: %d", what, code)
		}
	}
	for what, m := range invalidMedia() {
		refused(what, m)
		refused(what, m, api.Act{Barrier: true})
		m.Down = true
		refused(what, m)
		if got, code := store.Crash(m, []bool{true}); code != api.ErrArgument || !sameMedium(got, api.Medium{}) {
			t.Errorf("Crash of %s: %d", what, code)
		}
	}
	for _, a := range []api.Act{
		{}, {Page: 3}, {Page: 3, Data: page[:63]}, {Page: 3, Data: make([]byte, 65)}, {Page: 9, Data: page}, {Page: -1, Data: page}, {Page: math.MaxInt, Data: page}, {Page: math.MinInt, Data: page},
		{Barrier: true, Page: 1}, {Barrier: true, Page: -1}, {Barrier: true, Data: page}, {Barrier: true, Data: []byte{0}}, {Barrier: true, Page: 3, Data: page},
	} {
		for _, left := range []int{-1, 0, 1, 5} {
			for _, down := range []bool{false, true} {
				m, _ := store.Format(9)
				m.Left, m.Down = left, down
				refused(fmt.Sprint(a), m, a)
				refused(fmt.Sprint(a), m, api.Act{Page: 8, Data: page}, api.Act{Barrier: true}, a)
			}
		}
	}
	m, _ := store.Format(9)
	if _, code := store.Perform(m, []api.Act{{Page: 8, Data: page}, {Page: 0, Data: page}, {Barrier: true, Data: []byte{}}}); code != api.OK {
		t.Errorf("Perform on the last page: %d", code)
	}
}

// P14.3: any choice of the pending writes is applied, in order.
func TestCrash(t *testing.T) {
	some(5000, func(r *rand.Rand) {
		m := randomMedium(r)
		keep := make([]bool, r.Intn(7))
		for i := range keep {
			keep[i] = r.Intn(3) > 0
		}
		given, givenKeep := copyMedium(m), slices.Clone(keep)
		want := api.Medium{Pages: copyMedium(m).Pages, Left: -1}
		for i, w := range m.Pending {
			if i < len(keep) && keep[i] {
				want.Pages[w.Page] = w.Data
			}
		}
		got, code := store.Crash(given, givenKeep)
		if code != api.OK || !sameMedium(got, want) {
			t.Fatalf("Crash(%v, %t) = %v, %d, want %v", m, keep, got, code, want)
		}
		if !sameMedium(given, m) || !slices.Equal(givenKeep, keep) {
			t.Fatal("Crash has changed its arguments")
		}
		spoilMedium(given)
		if !sameMedium(got, want) {
			t.Fatal("Crash shares memory with the medium")
		}
		for i, page := range got.Pages {
			spoilBytes(page)
			got.Pages[i] = want.Pages[i]
			if !sameMedium(got, want) {
				t.Fatal("Crash returns pages that share memory")
			}
		}
	})
}
