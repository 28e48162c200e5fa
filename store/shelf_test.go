package store_test

import (
	"fmt"
	"math/rand"
	"slices"
	"strings"
	"testing"

	"fiducial/api"
	"fiducial/store"
)

// grown is the shelf s with further entries in the given log, and the acts for them.
func grown(s api.Shelf, e record) (api.Shelf, []api.Act) {
	pages := logOf(e)
	next := copyShelf(s)
	next.Sequence++
	next.Used += len(pages)
	if e.isTag {
		next.Tags = slices.DeleteFunc(next.Tags, func(t api.Tag) bool { return t.Name == e.tag.Name })
		if e.tag.Target != "" {
			next.Tags = append(next.Tags, e.tag)
		}
		slices.SortFunc(next.Tags, func(a, b api.Tag) int { return strings.Compare(a.Name, b.Name) })
	} else {
		next.Objects = append(next.Objects, copyObject(e.object))
	}
	return next, actsOf(next, s.Used, pages)
}

// actsOf are the acts that write pages of the half of a shelf, from an offset on, and its superblock.
func actsOf(next api.Shelf, offset int, pages [][]byte) []api.Act {
	var acts []api.Act
	first := 2
	if next.Half == 1 {
		first += (next.Size - 2) / 2
	}
	for i, page := range pages {
		acts = append(acts, api.Act{Page: first + offset + i, Data: page})
	}
	return append(acts, api.Act{Barrier: true}, api.Act{Page: next.Sequence % 2, Data: super(next.Sequence, next.Half, next.Used)}, api.Act{Barrier: true})
}

// reached are the names that can be reached from others, by the definition: all ways along links are gone.
func reached(s api.Shelf, names []string) []string {
	found := map[string]bool{}
	var walk func(name string)
	walk = func(name string) {
		if found[name] {
			return
		}
		found[name] = true
		for _, o := range s.Objects {
			if nameOf(o) == name {
				for _, link := range o.Links {
					walk(link)
				}
			}
		}
	}
	for _, name := range names {
		walk(name)
	}
	var l []string
	for name := range found {
		l = append(l, name)
	}
	slices.Sort(l)
	return l
}

// collected is the shelf that Collect should return, and its acts.
func collected(s api.Shelf) (api.Shelf, []api.Act) {
	var targets []string
	for _, tag := range s.Tags {
		targets = append(targets, tag.Target)
	}
	keep := reached(s, targets)
	var l []record
	for _, o := range s.Objects {
		if slices.Contains(keep, nameOf(o)) {
			l = append(l, put(copyObject(o)))
		}
	}
	for _, tag := range s.Tags {
		l = append(l, set(tag.Name, tag.Target))
	}
	next := shelf(s.Size, s.Sequence+1, 1-s.Half, l...)
	return next, actsOf(next, 0, logOf(l...))
}

// result is what an operation returns: a shelf, acts, a name if it is Put, and a code.
type result struct {
	shelf api.Shelf
	acts  []api.Act
	name  string
	code  api.Code
}

// expect fails the test if an operation does not return what it should, changes its arguments, or shares memory with them.
func expect(t *testing.T, what string, s api.Shelf, operation func(s api.Shelf) result, want result) result {
	t.Helper()
	argument := copyShelf(s)
	got := operation(argument)
	check := func(when string) {
		t.Helper()
		if got.code != want.code || got.name != want.name || !same(got.shelf, want.shelf) || !slices.EqualFunc(got.acts, want.acts, sameAct) {
			t.Fatalf("%s of %v%s: %v, want %v", what, s, when, got, want)
		}
	}
	check("")
	if !same(argument, s) {
		t.Fatalf("%s has changed %v to %v", what, s, argument)
	}
	spoilShelf(argument)
	check(" shares memory with it")
	again := operation(copyShelf(s))
	spoilShelf(again.shelf)
	if !slices.EqualFunc(again.acts, want.acts, sameAct) {
		t.Fatalf("%s of %v: the acts share memory with the shelf", what, s)
	}
	for i, a := range again.acts {
		spoilBytes(a.Data)
		if i+1 < len(again.acts) && !sameAct(again.acts[i+1], want.acts[i+1]) {
			t.Fatalf("%s of %v: acts share memory", what, s)
		}
	}
	return got
}

// doPut, doTag and doCollect are the operations.
func doPut(o api.Object) func(s api.Shelf) result {
	return func(s api.Shelf) result {
		given := copyObject(o)
		next, acts, name, code := store.Put(s, given)
		spoilObject(given)
		return result{next, acts, name, code}
	}
}

func doTag(tag, target string) func(s api.Shelf) result {
	return func(s api.Shelf) result {
		next, acts, code := store.Tagged(s, tag, target)
		return result{shelf: next, acts: acts, code: code}
	}
}

func doCollect(s api.Shelf) result {
	next, acts, code := store.Collect(s)
	return result{shelf: next, acts: acts, code: code}
}

// wantPut, wantTag and wantCollect are what the operations should return for valid arguments.
func wantPut(s api.Shelf, o api.Object) result {
	name := nameOf(o)
	for _, p := range s.Objects {
		if sameObject(o, p) {
			return result{shelf: s, name: name}
		}
	}
	next, acts := grown(s, put(o))
	if next.Used > (s.Size-2)/2 || next.Sequence > greatest {
		return result{code: api.ErrFull}
	}
	return result{next, acts, name, api.OK}
}

func wantTag(s api.Shelf, tag, target string) result {
	if slices.Contains(s.Tags, api.Tag{Name: tag, Target: target}) {
		return result{shelf: s}
	}
	next, acts := grown(s, set(tag, target))
	if next.Used > (s.Size-2)/2 || next.Sequence > greatest {
		return result{code: api.ErrFull}
	}
	return result{shelf: next, acts: acts}
}

func wantCollect(s api.Shelf) result {
	next, acts := collected(s)
	if next.Sequence > greatest {
		return result{code: api.ErrFull}
	}
	return result{shelf: next, acts: acts}
}

// P14.2: the first example, byte by byte.
func TestPutExample(t *testing.T) {
	m, _ := store.Format(8)
	s, _ := store.Load(m)
	next, acts, name, code := store.Put(s, api.Object{})
	page := "\x00\x00\x00\x0cl3:i0;l0:t0:" + strings.Repeat("\x00", 48)
	block := "FSB1\x00\x00\x00\x01\x00\x00\x00\x00\x01" + strings.Repeat("\x00", 51)
	want := []api.Act{{Page: 2, Data: []byte(page)}, {Barrier: true}, {Page: 1, Data: []byte(block)}, {Barrier: true}}
	if code != api.OK || !slices.EqualFunc(acts, want, sameAct) || !same(next, api.Shelf{Size: 8, Sequence: 1, Used: 1, Objects: []api.Object{{}}}) {
		t.Errorf("Put = %v, %v, %d", next, acts, code)
	}
	if direct, _ := store.Name(api.Object{}); direct != name || name != nameOf(api.Object{}) {
		t.Errorf("the name is %s", name)
	}
}

// P14.2: objects are put on shelves of all kinds, stored or not, with room or without.
func TestPut(t *testing.T) {
	count := map[api.Code]int{}
	some(3000, func(r *rand.Rand) {
		s, _ := randomShelf(r)
		s.Sequence = pick(r, []int{s.Sequence, greatest - 1, greatest})
		names, _ := store.Names(s)
		o := randomObject(r, names, pick(r, []int{10, 1024}))
		if len(s.Objects) > 0 && r.Intn(4) == 0 {
			o = pick(r, s.Objects)
		}
		count[expect(t, "Put", s, doPut(o), wantPut(s, o)).code]++
	})
	if min(count[api.OK], count[api.ErrFull]) < 500 {
		t.Errorf("%v", count)
	}
}

// P14.2: tags are set, changed and removed.
func TestTagged(t *testing.T) {
	count := map[api.Code]int{}
	some(3000, func(r *rand.Rand) {
		s, _ := randomShelf(r)
		s.Sequence = pick(r, []int{s.Sequence, greatest - 1, greatest})
		tag, target := randomTag(r), ""
		if len(s.Tags) > 0 && r.Intn(2) == 0 {
			tag = pick(r, s.Tags).Name
		}
		if r.Intn(2) == 0 && len(s.Objects) > 0 {
			target = nameOf(pick(r, s.Objects))
		}
		want := wantTag(s, tag, target)
		if target == "" && !slices.ContainsFunc(s.Tags, func(t api.Tag) bool { return t.Name == tag }) {
			want = result{code: api.ErrMissing}
		}
		count[expect(t, "Tagged", s, doTag(tag, target), want).code]++
	})
	if min(count[api.OK], count[api.ErrFull], count[api.ErrMissing]) < 300 {
		t.Errorf("%v", count)
	}
}

// P14.2: which names tags may have.
func TestTagNames(t *testing.T) {
	a := thing("a")
	s := shelf(40, 5, 1, put(a))
	for _, tag := range goodTags() {
		expect(t, "Tagged", s, doTag(tag, nameOf(a)), wantTag(s, tag, nameOf(a)))
		expect(t, "Tagged", s, doTag(tag, ""), result{code: api.ErrMissing})
		if code := store.Check(shelf(40, 5, 1, put(a), set(tag, nameOf(a)))); code != api.OK {
			t.Errorf("Check with the tag %q: %d", tag, code)
		}
	}
	for _, tag := range badTags() {
		for _, target := range []string{nameOf(a), "", "a", strings.Repeat("0", 32)} {
			expect(t, fmt.Sprintf("Tagged %q", tag), s, doTag(tag, target), result{code: api.ErrName})
		}
	}
}

// P14.2, P14.6: Collect keeps exactly what tags reach.
func TestCollect(t *testing.T) {
	dropped := 0
	some(2000, func(r *rand.Rand) {
		s, _ := randomShelf(r)
		s.Sequence = pick(r, []int{s.Sequence, s.Sequence, greatest - 1, greatest})
		got := expect(t, "Collect", s, doCollect, wantCollect(s))
		if got.code == api.OK && len(got.shelf.Objects) < len(s.Objects) {
			dropped++
		}
	})
	if dropped < 300 {
		t.Errorf("%d collections have dropped something", dropped)
	}
	for half := range 2 {
		s := shelf(8, 7, half)
		expect(t, "Collect", s, doCollect, wantCollect(s))
	}
}

// P14.2: a half is filled exactly.
func TestFull(t *testing.T) {
	a := thing("a")
	for size := 8; size < 40; size++ {
		for half := range 2 {
			s := shelf(size, 4, half, put(a))
			room := (size-2)/2 - 1
			fits, bigger := room*64-4-len("l3:i0;l0:t1000:"), 0
			// The numeral of a length below 1000 is shorter.
			for len(logOf(put(thing(strings.Repeat("x", fits+bigger+1))))) <= room {
				bigger++
			}
			o, p := thing(strings.Repeat("x", fits+bigger)), thing(strings.Repeat("x", fits+bigger+1))
			if room > 16 {
				o = thing(strings.Repeat("x", 1024))
			} else {
				expect(t, "Put", s, doPut(p), result{code: api.ErrFull})
			}
			full := expect(t, "Put", s, doPut(o), wantPut(s, o)).shelf
			if room > 16 {
				continue
			}
			if full.Used != (size-2)/2 {
				t.Fatalf("%d of %d pages are used", full.Used, size)
			}
			expect(t, "Put", full, doPut(thing("")), result{code: api.ErrFull})
			expect(t, "Put", full, doPut(o), result{shelf: full, name: nameOf(o)})
			expect(t, "Tagged", full, doTag("t", nameOf(a)), result{code: api.ErrFull})
			expect(t, "Collect", full, doCollect, wantCollect(full))
			if store.Check(full) != api.OK {
				t.Fatalf("%v is not valid", full)
			}
		}
	}
}

// P14.2: no sequence number is above 2^31 - 1.
func TestLastSequence(t *testing.T) {
	s := example()
	name := nameOf(s.Objects[0])
	for _, q := range []int{greatest - 1, greatest} {
		s.Sequence = q
		expect(t, "Put", s, doPut(thing("new")), wantPut(s, thing("new")))
		expect(t, "Put", s, doPut(s.Objects[1]), result{shelf: s, name: nameOf(s.Objects[1])})
		expect(t, "Tagged", s, doTag("new", name), wantTag(s, "new", name))
		expect(t, "Tagged", s, doTag("u", name), wantTag(s, "u", name))
		expect(t, "Tagged", s, doTag("t", ""), wantTag(s, "t", ""))
		expect(t, "Tagged", s, doTag("t", name), result{shelf: s})
		expect(t, "Collect", s, doCollect, wantCollect(s))
	}
	if wantPut(s, thing("new")).code != api.ErrFull || wantTag(s, "t", "").code != api.ErrFull || wantCollect(s).code != api.ErrFull {
		t.Error("the sequence number is not the last one")
	}
}

// P14.2: Get, Find and Names.
func TestGet(t *testing.T) {
	some(400, func(r *rand.Rand) {
		s, _ := randomShelf(r)
		before := copyShelf(s)
		names, code := store.Names(s)
		if code != api.OK || len(names) != len(s.Objects) {
			t.Fatalf("Names = %v, %d", names, code)
		}
		for i, o := range before.Objects {
			name := nameOf(o)
			got, code := store.Get(s, name)
			if names[i] != name || code != api.OK || !sameObject(got, o) {
				t.Fatalf("Get(%s) = %v, %d, want %v", name, got, code, o)
			}
			spoilObject(got)
		}
		for _, name := range []string{"", "a", strings.Repeat("0", 32), "t", nameOf(thing("other"))} {
			if got, code := store.Get(s, name); code != api.ErrMissing || !sameObject(got, api.Object{}) {
				t.Fatalf("Get(%q) = %v, %d", name, got, code)
			}
		}
		for _, tag := range before.Tags {
			if target, code := store.Find(s, tag.Name); code != api.OK || target != tag.Target {
				t.Fatalf("Find(%q) = %q, %d", tag.Name, target, code)
			}
		}
		for _, tag := range []string{"", "A", "other", "a0", "zz", "a-0", pick(r, badTags())} {
			if target, code := store.Find(s, tag); code != api.ErrMissing || target != "" {
				t.Fatalf("Find(%q) = %q, %d", tag, target, code)
			}
		}
		for i := range names {
			names[i] = "spoilt"
		}
		if !same(s, before) {
			t.Fatalf("%v has become %v", before, s)
		}
	})
}

// P14.2: Reach follows all links.
func TestReach(t *testing.T) {
	some(1500, func(r *rand.Rand) {
		s, _ := randomShelf(r)
		all, _ := store.Names(s)
		var names []string
		for range r.Intn(4) {
			if len(all) > 0 {
				names = append(names, pick(r, all))
			}
		}
		before, given := copyShelf(s), slices.Clone(names)
		got, code := store.Reach(s, names)
		if code != api.OK || !slices.Equal(got, reached(s, names)) || !same(s, before) || !slices.Equal(names, given) {
			t.Fatalf("Reach(%v, %v) = %v, %d", s, names, got, code)
		}
		for _, name := range []string{"", "t", strings.Repeat("0", 32)} {
			if got, code := store.Reach(s, append(slices.Clone(names), name)); code != api.ErrMissing || len(got) > 0 {
				t.Fatalf("Reach(%v, %q) = %v, %d", s, name, got, code)
			}
		}
	})
	// A ladder has more ways than could be gone one by one.
	s := api.Shelf{Size: 4096, Used: 2000}
	var names []string
	for i := range 60 {
		var links []string
		for k := max(0, i-3); k < i; k++ {
			links = append(links, names[k])
		}
		o := thing(fmt.Sprint(i), links...)
		s.Objects = append(s.Objects, o)
		names = append(names, nameOf(o))
	}
	if got, code := store.Reach(s, names[59:]); code != api.OK || len(got) != 60 || !slices.IsSorted(got) {
		t.Errorf("Reach has found %d names, %d", len(got), code)
	}
	if got, code := store.Reach(s, nil); code != api.OK || len(got) != 0 {
		t.Errorf("Reach of nothing has found %d names, %d", len(got), code)
	}
}

// P14.2: names of objects, within their limits and beyond.
func TestName(t *testing.T) {
	zero := strings.Repeat("0", 32)
	for _, c := range []struct {
		o    api.Object
		want api.Code
	}{
		{api.Object{}, api.OK},
		{api.Object{Links: []string{}, Data: []byte{}}, api.OK},
		{thing("a", zero, strings.Repeat("f", 32), zero), api.OK},
		{thing(strings.Repeat("\x00", 1024), slices.Repeat([]string{zero}, 16)...), api.OK},
		{thing("", slices.Repeat([]string{zero}, 17)...), api.ErrLimit},
		{thing(strings.Repeat("x", 1025)), api.ErrLimit},
		{thing(strings.Repeat("x", 1025), "a"), api.ErrLimit},
		{thing("", slices.Repeat([]string{"a"}, 17)...), api.ErrLimit},
		{thing(strings.Repeat("x", 100000), slices.Repeat([]string{zero}, 9999)...), api.ErrLimit},
		{thing("a", ""), api.ErrName},
		{thing("a", zero[1:]), api.ErrName},
		{thing("a", zero+"0"), api.ErrName},
		{thing("a", zero, strings.Repeat("A", 32)), api.ErrName},
		{thing("a", append(slices.Repeat([]string{zero}, 15), strings.Repeat("g", 32))...), api.ErrName},
	} {
		given := copyObject(c.o)
		name, code := store.Name(given)
		if code != c.want || code != api.OK && name != "" || code == api.OK && name != nameOf(c.o) || !sameObject(given, c.o) {
			t.Errorf("Name(%.99s) = %q, %d, want %d", fmt.Sprint(c.o), name, code, c.want)
		}
	}
	names := map[string]bool{}
	some(2000, func(r *rand.Rand) {
		o := randomObject(r, []string{zero, strings.Repeat("f", 32)}, 60)
		name, code := store.Name(o)
		if code != api.OK || name != nameOf(o) {
			t.Fatalf("Name(%v) = %q, %d", o, name, code)
		}
		names[name] = true
	})
	if len(names) < 1500 {
		t.Errorf("%d names", len(names))
	}
}

// P14.7: whatever the order in which objects are put, they have the same names.
func TestNamesOfOrders(t *testing.T) {
	some(200, func(r *rand.Rand) {
		var objects []api.Object
		names := map[string]bool{}
		var all []string
		for range 1 + r.Intn(8) {
			o := randomObject(r, all, 30)
			if !names[nameOf(o)] {
				objects, all = append(objects, o), append(all, nameOf(o))
				names[nameOf(o)] = true
			}
		}
		s := api.Shelf{Size: 200}
		for left := slices.Clone(objects); len(left) > 0; {
			i := r.Intn(len(left))
			next, _, name, code := store.Put(s, left[i])
			if code == api.ErrMissing {
				continue
			}
			if code != api.OK || name != nameOf(left[i]) {
				t.Fatalf("Put(%v) = %q, %d", left[i], name, code)
			}
			s, left = next, slices.Delete(left, i, i+1)
		}
		got, _ := store.Names(s)
		slices.Sort(got)
		slices.Sort(all)
		if !slices.Equal(got, all) {
			t.Fatalf("names %v, want %v", got, all)
		}
	})
}
