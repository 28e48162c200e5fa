package frame_test

import (
	"fmt"
	"math/rand"
	"slices"
	"strings"
	"testing"

	"fiducial/api"
	"fiducial/frame"
)

// P15.1: frames and their metadata.
func TestCheck(t *testing.T) {
	some(1000, func(r *rand.Rand) {
		f := randomFrame(r)
		before := copied(f)
		if code := frame.Check(f); code != api.OK || !same(f, before) {
			t.Fatalf("Check(%v): %d", before, code)
		}
	})
	pixel := of(1, []int{0})
	for _, key := range goodKeys() {
		if code := frame.Check(framed(pixel, key, "")); code != api.OK {
			t.Errorf("Check with the key %q: %d", key, code)
		}
	}
	for _, key := range badKeys() {
		if code := frame.Check(framed(pixel, key, "")); code != api.ErrName {
			t.Errorf("Check with the key %q: %d", key, code)
		}
	}
	for _, value := range badValues() {
		if code := frame.Check(framed(pixel, "a", value)); code != api.ErrSyntax {
			t.Errorf("Check with the value %q: %d", value, code)
		}
	}
	for c := 32; c < 127; c++ {
		if code := frame.Check(framed(pixel, "a", string(rune(c)), "b", strings.Repeat(string(rune(c)), 120))); code != api.OK {
			t.Errorf("Check with the byte %d: %d", c, code)
		}
	}
}

// many is metadata with so many entries.
func many(n int) []api.Entry {
	var l []api.Entry
	for i := range n {
		l = append(l, api.Entry{Key: fmt.Sprintf("k%03d", i)})
	}
	return l
}

// invalid are values that are no frames, with their codes.
func invalid() []struct {
	f    api.Frame
	want api.Code
} {
	type pair = struct {
		f    api.Frame
		want api.Code
	}
	var l []pair
	pixel := of(1, []int{0})
	for _, r := range badRasters() {
		l = append(l, pair{framed(r), api.ErrArgument}, pair{framed(r, "A", ""), api.ErrArgument}, pair{api.Frame{Raster: r, Meta: many(33)}, api.ErrArgument})
	}
	x121 := strings.Repeat("x", 121)
	bad33 := many(33)
	bad33[0] = api.Entry{Key: "A", Value: x121}
	late := many(32)
	late[31].Value = "\n"
	return append(l,
		pair{api.Frame{Raster: pixel, Meta: many(33)}, api.ErrLimit},
		pair{api.Frame{Raster: pixel, Meta: many(34)}, api.ErrLimit},
		pair{api.Frame{Raster: pixel, Meta: bad33}, api.ErrLimit},
		pair{api.Frame{Raster: pixel, Meta: many(32)}, api.OK},
		pair{api.Frame{Raster: pixel, Meta: late}, api.ErrSyntax},
		pair{framed(pixel, "b", "", "A", x121), api.ErrName},
		pair{framed(pixel, "b", "", "a", x121), api.ErrOrder},
		pair{framed(pixel, "b", "", "a", "\n"), api.ErrOrder},
		pair{framed(pixel, "b", "", "b", ""), api.ErrOrder},
		pair{framed(pixel, "b", "1", "b", "2"), api.ErrOrder},
		pair{framed(pixel, "ab", "", "a", ""), api.ErrOrder},
		pair{framed(pixel, "a", "", "ab", ""), api.OK},
		pair{framed(pixel, "a_", "", "a0", ""), api.ErrOrder},
		pair{framed(pixel, "a0", "", "a_", "", "aa", ""), api.OK},
		pair{framed(pixel, "a", "", "b", "", "a", ""), api.ErrOrder},
		pair{framed(pixel, "a", x121), api.ErrLong},
		pair{framed(pixel, "a", x121+"\n"), api.ErrLong},
		pair{framed(pixel, "a", "\n"+x121), api.ErrLong},
		pair{framed(pixel, "a", strings.Repeat("\u00e9", 61)), api.ErrLong},
		pair{framed(pixel, "a", x121[1:]), api.OK},
		pair{framed(pixel, "a", "\n", "A", ""), api.ErrSyntax},
		pair{framed(pixel, "a", "\n", "b", x121), api.ErrSyntax},
		pair{framed(pixel, "a", x121, "b", "\n"), api.ErrLong},
		pair{framed(pixel, "a", x121, "A", ""), api.ErrLong},
		pair{framed(pixel, "A", "", "a", x121), api.ErrName},
		pair{framed(pixel, "b", "\n", "a", ""), api.ErrSyntax},
	)
}

// P15.1, P15.4, P15.6: the errors in their order, with other arguments that are right or not.
func TestInvalid(t *testing.T) {
	for _, c := range invalid() {
		if code := frame.Check(c.f); code != c.want {
			t.Errorf("Check(%v): %d, want %d", c.f, code, c.want)
		}
		file, code := frame.Encode(c.f)
		if code != c.want || code != api.OK && len(file) > 0 {
			t.Errorf("Encode(%v): %d, want %d", c.f, code, c.want)
		}
		if c.want == api.OK {
			continue
		}
		for _, key := range []string{"a", "zz", "A", ""} {
			if value, code := frame.Get(c.f, key); code != c.want || value != "" {
				t.Errorf("Get(%v, %q) = %q, %d, want %d", c.f, key, value, code, c.want)
			}
			if f, code := frame.Drop(c.f, key); code != c.want || !isEmpty(f) {
				t.Errorf("Drop(%v, %q) = %v, %d, want %d", c.f, key, f, code, c.want)
			}
			for _, value := range []string{"", "\n", strings.Repeat("x", 121)} {
				if f, code := frame.Put(c.f, key, value); code != c.want || !isEmpty(f) {
					t.Errorf("Put(%v, %q) = %v, %d, want %d", c.f, key, f, code, c.want)
				}
			}
		}
	}
}

// valueOf is the value of a key, and whether there is one.
func valueOf(f api.Frame, key string) (string, bool) {
	for _, e := range f.Meta {
		if e.Key == key {
			return e.Value, true
		}
	}
	return "", false
}

// with and without are f with a value for a key, and without one.
func with(f api.Frame, key, value string) api.Frame {
	f = without(f, key)
	f.Meta = append(f.Meta, api.Entry{Key: key, Value: value})
	slices.SortFunc(f.Meta, func(a, b api.Entry) int { return strings.Compare(a.Key, b.Key) })
	return f
}

func without(f api.Frame, key string) api.Frame {
	f = copied(f)
	f.Meta = slices.DeleteFunc(f.Meta, func(e api.Entry) bool { return e.Key == key })
	return f
}

// P15.6: values are found, put and dropped, and nothing else is changed.
func TestEntries(t *testing.T) {
	count := map[api.Code]int{}
	some(3000, func(r *rand.Rand) {
		f := api.Frame{Meta: randomMeta(r), Raster: of(9, []int{1, 2}, []int{3, 4})}
		key, value := randomKey(r), randomValue(r)
		if len(f.Meta) > 0 && r.Intn(2) == 0 {
			key = pick(r, f.Meta).Key
		}
		before := copied(f)
		old, isThere := valueOf(f, key)
		got, getCode := frame.Get(f, key)
		dropped, dropCode := frame.Drop(f, key)
		put, putCode := frame.Put(f, key, value)
		wantGet, wantPut, wantDropped, wantFrame := api.OK, api.OK, without(before, key), with(before, key, value)
		if !isThere {
			wantGet, wantDropped = api.ErrMissing, api.Frame{}
			if len(f.Meta) == 32 {
				wantPut, wantFrame = api.ErrLimit, api.Frame{}
			}
		}
		count[putCode]++
		count[getCode]++
		if got != old || getCode != wantGet || dropCode != wantGet || putCode != wantPut || !same(dropped, wantDropped) || !same(put, wantFrame) || !same(f, before) {
			t.Fatalf("%v with %q: Get %q, %d, Drop %v, %d, Put %v, %d", before, key, got, getCode, dropped, dropCode, put, putCode)
		}
		spoil(f)
		if !same(dropped, wantDropped) || !same(put, wantFrame) {
			t.Fatalf("results share memory with %v", before)
		}
		if putCode == api.OK {
			undo(t, before, put, key, value)
		}
	})
	if min(count[api.OK], count[api.ErrMissing], count[api.ErrLimit]) < 100 {
		t.Errorf("%v", count)
	}
}

// undo fails the test if Put and Drop do not undo each other, for a frame and one in which a key has got a value.
func undo(t *testing.T, f, put api.Frame, key, value string) {
	t.Helper()
	if got, code := frame.Get(put, key); got != value || code != api.OK {
		t.Fatalf("Get = %q, %d, want %q", got, code, value)
	}
	old, isThere := valueOf(f, key)
	back, code := frame.Drop(put, key)
	if isThere {
		back, code = frame.Put(back, key, old)
	}
	if code != api.OK || !same(back, f) {
		t.Fatalf("%v has become %v, %d", f, back, code)
	}
}

// P15.6: the errors of Put, Get and Drop, each one before those that come behind it.
func TestEntriesErrors(t *testing.T) {
	full := api.Frame{Meta: many(32), Raster: of(1, []int{0})}
	few := api.Frame{Meta: many(31), Raster: of(1, []int{0})}
	x121 := strings.Repeat("x", 121)
	for _, c := range []struct {
		key, value    string
		onFew, onFull api.Code
	}{
		{"", "", api.ErrName, api.ErrName},
		{"A", x121, api.ErrName, api.ErrName},
		{"A", "\n", api.ErrName, api.ErrName},
		{strings.Repeat("k", 25), "", api.ErrName, api.ErrName},
		{"k000", x121, api.ErrLong, api.ErrLong},
		{"z", x121 + "\n", api.ErrLong, api.ErrLong},
		{"k000", "\n", api.ErrSyntax, api.ErrSyntax},
		{"z", "\x7f", api.ErrSyntax, api.ErrSyntax},
		{"z", "", api.OK, api.ErrLimit},
		{"a", x121[1:], api.OK, api.ErrLimit},
		{"k0000", "", api.OK, api.ErrLimit},
		{"k000", "new", api.OK, api.OK},
		{"k030", "", api.OK, api.OK},
	} {
		for _, f := range []api.Frame{few, full} {
			want, frameWanted := c.onFew, with(f, c.key, c.value)
			if len(f.Meta) == 32 {
				want = c.onFull
			}
			if want != api.OK {
				frameWanted = api.Frame{}
			}
			if got, code := frame.Put(f, c.key, c.value); code != want || !same(got, frameWanted) {
				t.Errorf("Put(%q, %q) = %v, %d, want %d", c.key, c.value, got, code, want)
			}
		}
	}
	for _, key := range append(badKeys(), "k", "k00", "k0000", "k0001", "z", "a", "k031") {
		if value, code := frame.Get(few, key); code != api.ErrMissing || value != "" {
			t.Errorf("Get(%q) = %q, %d", key, value, code)
		}
		if f, code := frame.Drop(few, key); code != api.ErrMissing || !isEmpty(f) {
			t.Errorf("Drop(%q) = %v, %d", key, f, code)
		}
	}
	for _, key := range badKeys() {
		if f, code := frame.Put(few, key, ""); code != api.ErrName || !isEmpty(f) {
			t.Errorf("Put(%q) = %v, %d", key, f, code)
		}
	}
	for _, value := range badValues() {
		if f, code := frame.Put(few, "a", value); code != api.ErrSyntax || !isEmpty(f) {
			t.Errorf("Put(%q) = %v, %d", value, f, code)
		}
	}
	for _, e := range full.Meta {
		if got, code := frame.Drop(full, e.Key); code != api.OK || !same(got, without(full, e.Key)) {
			t.Errorf("Drop(%q) = %v, %d", e.Key, got, code)
		}
	}
}
