package store_test

import (
	"fmt"
	"math/rand"
	"slices"
	"testing"

	"fiducial/api"
	"fiducial/store"
)

// crashes calls back for each choice of the pending writes that survive, or for some if there are many.
func crashes(r *rand.Rand, m api.Medium, check func(m api.Medium)) {
	n := len(m.Pending)
	masks := 1 << min(n, 6)
	for mask := range masks {
		var keep []bool
		for i := range n {
			keep = append(keep, mask>>i&1 == 1 && n <= 6 || n > 6 && r.Intn(2) == 0)
		}
		if mask == 0 {
			keep = nil
		}
		after, code := store.Crash(m, keep)
		if code == api.OK {
			check(after)
		}
	}
}

// operation is Put, Tagged or Collect with some arguments.
type operation func(s api.Shelf) result

// randomOperation is an operation that could be done on a shelf.
func randomOperation(r *rand.Rand, s api.Shelf) operation {
	names, _ := store.Names(s)
	switch r.Intn(8) {
	case 0:
		return doCollect
	case 1, 2, 3:
		if len(names) > 0 {
			return doTag(randomTag(r), pick(r, names))
		}
	case 4:
		if len(s.Tags) > 0 {
			return doTag(pick(r, s.Tags).Name, "")
		}
	}
	return doPut(randomObject(r, names, pick(r, []int{5, 200})))
}

// P14.4: acts that are performed completely give the shelf that the operation returned, also after a crash.
func TestComplete(t *testing.T) {
	some(300, func(r *rand.Rand) {
		s, l := randomShelf(r)
		m := medium(s.Size, s.Sequence, s.Half, logOf(l...))
		// The other superblock and the pages that are not used may have anything.
		r.Read(m.Pages[1-s.Sequence%2])
		for range 20 {
			got := randomOperation(r, s)(copyShelf(s))
			if got.code != api.OK {
				continue
			}
			after, code := store.Perform(m, got.acts)
			if code != api.OK || len(after.Pending) > 0 {
				t.Fatalf("Perform: %d, %d pending writes", code, len(after.Pending))
			}
			mustLoad(t, after, got.shelf)
			crashes(r, after, func(m api.Medium) { mustLoad(t, m, got.shelf) })
			m, s = after, got.shelf
		}
	})
}

// P14.5: wherever the power fails, and whatever of the pending writes survives, the shelf is the old or the new one; the old one as long as the superblock is not written.
func TestFailures(t *testing.T) {
	olds, news := 0, 0
	some(600, func(r *rand.Rand) {
		s, l := randomShelf(r)
		m := medium(s.Size, s.Sequence, s.Half, logOf(l...))
		if s.Sequence > 0 && r.Intn(3) > 0 {
			copy(m.Pages[1-s.Sequence%2], super(s.Sequence-1, r.Intn(2), r.Intn((s.Size-2)/2+1)))
		} else {
			// A superblock that is newer, but can not count.
			copy(m.Pages[1-s.Sequence%2], super(s.Sequence+1, 2, 0))
		}
		got := randomOperation(r, s)(copyShelf(s))
		for left := range len(got.acts) {
			m.Left = left
			after, code := store.Perform(m, got.acts)
			if code != api.ErrDown || !after.Down || after.Left != 0 {
				t.Fatalf("Perform with %d left: %d", left, code)
			}
			if _, code := store.Load(after); code != api.ErrDown {
				t.Fatalf("Load: %d", code)
			}
			crashes(r, after, func(m api.Medium) {
				loaded, code := store.Load(m)
				isOld, isNew := same(loaded, s), same(loaded, got.shelf)
				if code != api.OK || !isOld && !(isNew && left == len(got.acts)-1) {
					t.Fatalf("Load after %d of %d acts: %v, %d, was %v", left, len(got.acts), loaded, code, s)
				}
				if isOld {
					olds++
				} else {
					news++
				}
			})
		}
	})
	if min(olds, news) < 300 {
		t.Errorf("%d old and %d new shelves", olds, news)
	}
}

// P14.5: the second example.
func TestFailureExample(t *testing.T) {
	m, _ := store.Format(8)
	s, _ := store.Load(m)
	next, acts, _, _ := store.Put(s, api.Object{})
	for _, c := range []struct {
		left int
		keep []bool
		want api.Shelf
	}{{2, nil, s}, {2, []bool{true}, s}, {3, []bool{true}, next}, {3, []bool{false}, s}, {3, nil, s}, {1, []bool{true}, s}, {0, nil, s}} {
		m.Left = c.left
		down, code := store.Perform(m, acts)
		after, _ := store.Crash(down, c.keep)
		if code != api.ErrDown || after.Left != -1 || after.Down || len(after.Pending) > 0 {
			t.Errorf("%d left: %d", c.left, code)
		}
		mustLoad(t, after, c.want)
	}
	if s.Sequence != 0 || len(next.Objects) != 1 {
		t.Errorf("%v and %v", s, next)
	}
}

// story is a store that is worked with, and what should be in it.
type story struct {
	t      *testing.T
	r      *rand.Rand
	medium api.Medium
	shelf  api.Shelf
	known  map[string]api.Object
	done   map[api.Code]int
}

// work does an operation; sometimes the power fails.
func (y *story) work() {
	got := randomOperation(y.r, y.shelf)(copyShelf(y.shelf))
	y.done[got.code]++
	if got.code != api.OK {
		return
	}
	y.medium.Left = -1
	if y.r.Intn(2) == 0 {
		y.medium.Left = y.r.Intn(len(got.acts) + 2)
	}
	m, code := store.Perform(y.medium, got.acts)
	y.done[code]++
	if code == api.ErrDown || y.r.Intn(8) == 0 {
		keep := make([]bool, len(m.Pending))
		for i := range keep {
			keep[i] = y.r.Intn(2) == 0
		}
		m, _ = store.Crash(m, keep)
	}
	s, loadCode := store.Load(m)
	if loadCode != api.OK || !same(s, got.shelf) && (code == api.OK || !same(s, y.shelf)) {
		y.t.Fatalf("Load = %v, %d, was %v", s, loadCode, y.shelf)
	}
	y.account(s, got)
	y.medium, y.shelf = m, s
}

// account keeps the list of what should be in the store, independently of the layer's names and links.
func (y *story) account(s api.Shelf, got result) {
	if !same(s, got.shelf) {
		return
	}
	if got.name != "" {
		for _, o := range s.Objects {
			if nameOf(o) == got.name {
				y.known[got.name] = copyObject(o)
			}
		}
	}
	if s.Half == y.shelf.Half {
		return
	}
	var targets []string
	for _, tag := range y.shelf.Tags {
		targets = append(targets, tag.Target)
	}
	kept := reached(y.shelf, targets)
	for name := range y.known {
		if !slices.Contains(kept, name) {
			delete(y.known, name)
		}
	}
}

// check fails the test if something that was put is not got.
func (y *story) check() {
	names, code := store.Names(y.shelf)
	if code != api.OK || len(names) != len(y.known) {
		y.t.Fatalf("%d names, want %d, %d", len(names), len(y.known), code)
	}
	for name, o := range y.known {
		got, code := store.Get(y.shelf, name)
		if code != api.OK || !sameObject(got, o) {
			y.t.Fatalf("Get(%s) = %v, %d, want %v", name, got, code, o)
		}
	}
}

// P14.6: what has been put is got after any further operations and crashes, until it is collected.
func TestStories(t *testing.T) {
	done := map[api.Code]int{}
	some(60, func(r *rand.Rand) {
		m, _ := store.Format(8 + r.Intn(80))
		s, _ := store.Load(m)
		y := &story{t: t, r: r, medium: m, shelf: s, known: map[string]api.Object{}, done: done}
		for range 80 {
			y.work()
			y.check()
		}
	})
	if min(done[api.OK], done[api.ErrDown], done[api.ErrFull]) < 200 {
		t.Errorf("%v", done)
	}
}

// P14.4, P14.6: a store of the greatest size is filled, collected and filled again.
func TestGreatStore(t *testing.T) {
	m, _ := store.Format(4096)
	s, _ := store.Load(m)
	// The links make a chain, of which the tag keeps one half.
	var l []record
	last := ""
	for i := range 500 {
		o := thing(fmt.Sprint("the object ", i))
		if last != "" {
			o.Links = []string{last}
		}
		last = nameOf(o)
		l = append(l, put(o))
	}
	l = append(l, set("head", nameOf(l[249].object)))
	s = shelf(4096, 9, 1, l...)
	m = medium(4096, 9, 1, logOf(l...))
	mustLoad(t, m, s)
	next, acts, code := store.Collect(s)
	want, wantActs := collected(s)
	if code != api.OK || len(next.Objects) != 250 || !same(next, want) || !slices.EqualFunc(acts, wantActs, sameAct) {
		t.Fatalf("Collect: %d objects, %d", len(next.Objects), code)
	}
	m, code = store.Perform(m, acts)
	if code != api.OK {
		t.Fatalf("Perform: %d", code)
	}
	mustLoad(t, m, next)
	big := thing(string(make([]byte, 1024)))
	for i := 0; ; i++ {
		big.Data[0], big.Data[1] = byte(i), byte(i>>8)
		grown, _, _, code := store.Put(next, big)
		if code == api.ErrFull {
			break
		}
		if code != api.OK {
			t.Fatalf("Put: %d", code)
		}
		next = grown
	}
	if room := 2047 - next.Used; room >= 17 || store.Check(next) != api.OK {
		t.Errorf("%d pages are left", room)
	}
}
