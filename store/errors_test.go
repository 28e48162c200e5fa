package store_test

import (
	"fmt"
	"slices"
	"strings"
	"testing"

	"fiducial/api"
	"fiducial/store"
)

// P14.2: a shelf that is not valid comes before all other errors.
func TestInvalidShelves(t *testing.T) {
	objects := []api.Object{thing("a"), {}, thing("", "a"), thing("", strings.Repeat("0", 32)), thing(strings.Repeat("x", 1025))}
	for what, s := range invalidShelves() {
		for _, o := range objects {
			expect(t, "Put on "+what, s, doPut(o), result{code: api.ErrArgument})
		}
		for _, tag := range []string{"t", "new", "", "T"} {
			for _, target := range []string{"", nameOf(thing("a")), "a"} {
				expect(t, "Tagged on "+what, s, doTag(tag, target), result{code: api.ErrArgument})
			}
			if target, code := store.Find(s, tag); code != api.ErrArgument || target != "" {
				t.Errorf("Find on %s: %q, %d", what, target, code)
			}
		}
		expect(t, "Collect on "+what, s, doCollect, result{code: api.ErrArgument})
		for _, name := range []string{"", nameOf(thing("a"))} {
			if o, code := store.Get(s, name); code != api.ErrArgument || !sameObject(o, api.Object{}) {
				t.Errorf("Get on %s: %v, %d", what, o, code)
			}
			if l, code := store.Reach(s, []string{name}); code != api.ErrArgument || len(l) > 0 {
				t.Errorf("Reach on %s: %v, %d", what, l, code)
			}
		}
		if l, code := store.Names(s); code != api.ErrArgument || len(l) > 0 {
			t.Errorf("Names on %s: %v, %d", what, l, code)
		}
	}
}

// P14.2: the errors of Put, each one before those that come behind it.
func TestPutErrors(t *testing.T) {
	zero := strings.Repeat("0", 32)
	one, two := clash()
	a := thing("a")
	// The half of this shelf is full.
	full := shelf(10, 3, 0, put(a), put(one))
	full.Used = 4
	last := shelf(100, greatest, 0, put(a), put(one))
	roomy := shelf(100, 3, 0, put(a), put(one))
	for _, c := range []struct {
		o                   api.Object
		onRoomy, withoutAny api.Code
	}{
		{thing(strings.Repeat("x", 1025), zero), api.ErrLimit, api.ErrLimit},
		{thing("x", slices.Repeat([]string{"a"}, 17)...), api.ErrLimit, api.ErrLimit},
		{thing("x", zero, "a"), api.ErrName, api.ErrName},
		{thing("x", nameOf(a), "A"), api.ErrName, api.ErrName},
		{two, api.ErrClash, api.ErrClash},
		{thing("x", nameOf(a), zero), api.ErrMissing, api.ErrMissing},
		{thing("x", nameOf(thing("x"))), api.ErrMissing, api.ErrMissing},
		{thing("x", nameOf(a)), api.OK, api.ErrFull},
		{thing("x"), api.OK, api.ErrFull},
		{a, api.OK, api.OK},
		{one, api.OK, api.OK},
	} {
		for _, s := range []api.Shelf{roomy, full, last} {
			want := result{code: c.withoutAny}
			if s.Size == 100 && s.Sequence == 3 {
				want.code = c.onRoomy
			}
			if want.code == api.OK {
				want = wantPut(s, c.o)
			}
			expect(t, fmt.Sprintf("Put(%.50s)", fmt.Sprint(c.o)), s, doPut(c.o), want)
		}
	}
}

// P14.2: the errors of Tagged, each one before those that come behind it.
func TestTaggedErrors(t *testing.T) {
	zero := strings.Repeat("0", 32)
	a, b := thing("a"), thing("b")
	full := shelf(10, 3, 0, put(a), put(b), set("t", nameOf(a)))
	full.Used = 4
	last := shelf(100, greatest, 0, put(a), put(b), set("t", nameOf(a)))
	roomy := shelf(100, 3, 0, put(a), put(b), set("t", nameOf(a)))
	for _, c := range []struct {
		tag, target         string
		onRoomy, withoutAny api.Code
	}{
		{"", "", api.ErrName, api.ErrName},
		{"T", nameOf(a), api.ErrName, api.ErrName},
		{"T", zero, api.ErrName, api.ErrName},
		{"t", zero, api.ErrMissing, api.ErrMissing},
		{"t", "t", api.ErrMissing, api.ErrMissing},
		{"t", strings.ToUpper(nameOf(a)), api.ErrMissing, api.ErrMissing},
		{"u", "", api.ErrMissing, api.ErrMissing},
		{nameOf(a), "", api.ErrMissing, api.ErrMissing},
		{"u", nameOf(a), api.OK, api.ErrFull},
		{"t", nameOf(b), api.OK, api.ErrFull},
		{"t", "", api.OK, api.ErrFull},
		{"t", nameOf(a), api.OK, api.OK},
	} {
		for _, s := range []api.Shelf{roomy, full, last} {
			want := result{code: c.withoutAny}
			if s.Size == 100 && s.Sequence == 3 {
				want.code = c.onRoomy
			}
			if want.code == api.OK {
				want = wantTag(s, c.tag, c.target)
			}
			expect(t, fmt.Sprintf("Tagged(%q, %q)", c.tag, c.target), s, doTag(c.tag, c.target), want)
		}
	}
}
