package store_test

import (
	"bytes"
	"encoding/binary"
	"fmt"
	"math"
	"math/rand"
	"slices"
	"strings"
	"testing"

	"fiducial/api"
	"fiducial/store"
)

// P14.1: media of all sizes.
func TestFormat(t *testing.T) {
	for _, size := range []int{8, 9, 10, 63, 64, 4095, 4096} {
		m, code := store.Format(size)
		want := medium(size, 0, 0, nil)
		if code != api.OK || !sameMedium(m, want) {
			t.Errorf("Format(%d): %d", size, code)
		}
		mustLoad(t, m, api.Shelf{Size: size})
		// No page reaches into another one.
		for i, page := range m.Pages {
			spoilBytes(page)
			if i+1 < size && !bytes.Equal(m.Pages[i+1], want.Pages[i+1]) {
				t.Fatalf("Format(%d): pages %d and %d share memory", size, i, i+1)
			}
		}
	}
	for _, size := range []int{7, 0, 1, 2, -1, -8, 4097, 1 << 32, 1<<32 + 8, math.MaxInt, math.MinInt} {
		if m, code := store.Format(size); code != api.ErrRange || !sameMedium(m, api.Medium{}) {
			t.Errorf("Format(%d): %d", size, code)
		}
	}
}

// P14.1: right media, with anything on the pages that are not used.
func TestLoad(t *testing.T) {
	some(1500, func(r *rand.Rand) {
		s, l := randomShelf(r)
		m := medium(s.Size, s.Sequence, s.Half, logOf(l...))
		first := 2 + s.Half*((s.Size-2)/2)
		for i, page := range m.Pages {
			if i >= 2 && (i < first || i >= first+s.Used) {
				r.Read(page)
			}
		}
		r.Read(m.Pages[1-s.Sequence%2])
		m.Left = r.Intn(4) - 2
		mustLoad(t, m, s)
	})
}

// P14.1: what a medium shows has the pending writes.
func TestLoadPending(t *testing.T) {
	some(300, func(r *rand.Rand) {
		s, l := randomShelf(r)
		right := medium(s.Size, s.Sequence, s.Half, logOf(l...))
		m := copyMedium(right)
		for range r.Intn(20) {
			page := r.Intn(s.Size)
			r.Read(m.Pages[page])
			if r.Intn(2) == 0 {
				m.Pending = append(m.Pending, api.Act{Page: page, Data: slices.Repeat([]byte{7}, 64)})
			}
			m.Pending = append(m.Pending, api.Act{Page: page, Data: right.Pages[page]})
		}
		mustLoad(t, m, s)
	})
}

// P14.1: a result of Load keeps nothing of the medium.
func TestLoadShares(t *testing.T) {
	some(100, func(r *rand.Rand) {
		want, l := randomShelf(r)
		m := medium(want.Size, want.Sequence, want.Half, logOf(l...))
		for i, page := range m.Pages {
			m.Pending = append(m.Pending, api.Act{Page: i, Data: slices.Clone(page)})
		}
		first, _ := store.Load(m)
		second, _ := store.Load(m)
		for i, o := range second.Objects {
			spoilObject(o)
			if i+1 < len(second.Objects) && !sameObject(second.Objects[i+1], want.Objects[i+1]) {
				t.Fatal("objects share memory")
			}
		}
		spoilMedium(m)
		if !same(first, want) {
			t.Fatalf("%v has become %v", want, first)
		}
	})
}

// invalidMedia are media that are not valid.
func invalidMedia() map[string]api.Medium {
	page := make([]byte, 64)
	all := map[string]api.Medium{"none": {}, "7 pages": blank(7), "4097 pages": blank(4097), "empty": {Pages: [][]byte{}}}
	change := func(what string, f func(m *api.Medium)) {
		m, _ := store.Format(9)
		m.Pending = []api.Act{{Page: 3, Data: slices.Clone(page)}}
		f(&m)
		all[what] = m
	}
	change("short page", func(m *api.Medium) { m.Pages[8] = m.Pages[8][:63] })
	change("long page", func(m *api.Medium) { m.Pages[8] = make([]byte, 65) })
	change("no page", func(m *api.Medium) { m.Pages[0] = nil })
	for _, a := range []api.Act{{Barrier: true}, {Barrier: true, Page: 2, Data: page}, {Page: 9, Data: page}, {Page: -1, Data: page}, {Page: math.MinInt, Data: page}, {Page: math.MaxInt, Data: page}, {Page: 2}, {Page: 2, Data: page[:63]}, {Page: 2, Data: make([]byte, 65)}, {}} {
		change(fmt.Sprintf("pending %v", a), func(m *api.Medium) { m.Pending[0] = a })
		change(fmt.Sprintf("pending behind %v", a), func(m *api.Medium) { m.Pending = append(m.Pending, a) })
	}
	return all
}

// P14.1: media that are not valid, down, or without a superblock, in this order.
func TestLoadErrors(t *testing.T) {
	refused := func(what string, m api.Medium, want api.Code) {
		t.Helper()
		if s, code := store.Load(m); code != want || !isEmpty(s) {
			t.Errorf("%s: %v, %d, want %d", what, s, code, want)
		}
	}
	for what, m := range invalidMedia() {
		refused(what, m, api.ErrArgument)
		m.Down = true
		refused(what+", down", m, api.ErrArgument)
	}
	m, _ := store.Format(8)
	m.Down = true
	refused("down", m, api.ErrDown)
	m = blank(8)
	refused("blank", m, api.ErrMissing)
	m.Down = true
	refused("blank and down", m, api.ErrDown)
	for _, place := range []int{0, 1} {
		for _, q := range []int{1 - place, 3 - place, greatest - place, 1<<32 - 1 - place} {
			m = blank(8)
			copy(m.Pages[place], super(q, 0, 0))
			refused(fmt.Sprintf("%d on the page %d", q, place), m, api.ErrMissing)
		}
	}
	for i := range 64 {
		if i >= 4 && i < 13 {
			continue
		}
		m, _ = store.Format(8)
		m.Pages[0][i] ^= 1
		refused(fmt.Sprintf("byte %d", i), m, api.ErrMissing)
	}
	m = blank(8)
	copy(m.Pages[2], super(2, 0, 0))
	refused("on the page 2", m, api.ErrMissing)
	for _, half := range []int{2, 3, 128, 255} {
		m = blank(8)
		copy(m.Pages[0], super(2, half, 0))
		refused(fmt.Sprintf("half %d", half), m, api.ErrProof)
	}
	for _, used := range []int{4, 5, 255, 256, greatest, 1 << 31, 1<<32 - 1} {
		m = blank(9)
		copy(m.Pages[0], super(2, 1, used))
		refused(fmt.Sprintf("%d used pages", used), m, api.ErrProof)
	}
	for _, q := range []int{1 << 31, 1<<31 + 1, 1<<32 - 2, 1<<32 - 1} {
		m = blank(8)
		copy(m.Pages[q%2], super(q, 0, 0))
		refused(fmt.Sprintf("sequence number %d", q), m, api.ErrProof)
		copy(m.Pages[1-q%2], super(1-q%2, 0, 0))
		refused(fmt.Sprintf("sequence numbers %d and %d", q, 1-q%2), m, api.ErrProof)
	}
}

// P14.1: of two superblocks the one with the greater sequence number counts, if its half and its used pages can be.
func TestLoadTwo(t *testing.T) {
	a, b := put(thing("a")), put(thing("b"))
	for _, q := range [][2]int{{0, 1}, {2, 1}, {4, 7}, {8, 7}, {1000, 1}, {0, greatest}, {greatest - 1, greatest}, {256, 255}, {1 << 16, 1<<16 - 1}, {1 << 24, 1<<24 + 1}} {
		m := medium(10, q[0], 0, logOf(a))
		other := medium(10, q[1], 1, logOf(b))
		m.Pages[1] = other.Pages[1]
		copy(m.Pages[6:], other.Pages[6:])
		want := shelf(10, q[0], 0, a)
		if q[1] > q[0] {
			want = shelf(10, q[1], 1, b)
		}
		mustLoad(t, m, want)
		newer := 0
		if q[1] > q[0] {
			newer = 1
		}
		older := shelf(10, q[1-newer], 1-newer, []record{a, b}[1-newer])
		for _, page := range [][]byte{super(q[newer], 2, 1), super(q[newer], newer, 5), super(q[newer], 255, 1<<32-1)} {
			copy(m.Pages[newer], page)
			mustLoad(t, m, older)
		}
		// The log of the one that counts is not right: the other one does not help.
		copy(m.Pages[newer], super(q[newer], newer, 2))
		if s, code := store.Load(m); code != api.ErrProof || !isEmpty(s) {
			t.Errorf("%d: %v, %d", q, s, code)
		}
	}
}

// P14.1: logs in which an entry does not follow from those before it.
func TestLoadWrongLogs(t *testing.T) {
	a, b := thing("a"), thing("b", nameOf(thing("a")))
	nameA, nameB := nameOf(a), nameOf(b)
	one, two := clash()
	links16, links17 := thing("x", slices.Repeat([]string{nameA}, 16)...), thing("x", slices.Repeat([]string{nameA}, 17)...)
	data1024, data1025 := thing(strings.Repeat("d", 1024)), thing(strings.Repeat("d", 1025))
	for _, c := range []struct {
		log []record
		ok  bool
	}{
		{nil, true},
		{[]record{put(thing(""))}, true},
		{[]record{put(a), put(b)}, true},
		{[]record{put(b)}, false},
		{[]record{put(b), put(a)}, false},
		{[]record{put(a), put(a)}, false},
		{[]record{put(a), put(b), put(a)}, false},
		{[]record{put(one)}, true},
		{[]record{put(two)}, true},
		{[]record{put(one), put(two)}, false},
		{[]record{put(a), put(links16)}, true},
		{[]record{put(a), put(links17)}, false},
		{[]record{put(data1024)}, true},
		{[]record{put(data1025)}, false},
		{[]record{put(thing("x", strings.Repeat("0", 32)))}, false},
		{[]record{put(thing("x", "a"))}, false},
		{[]record{put(a), set("t", nameA)}, true},
		{[]record{set("t", nameA)}, false},
		{[]record{set("t", nameA), put(a)}, false},
		{[]record{put(a), set("t", nameB)}, false},
		{[]record{put(a), set("t", "a")}, false},
		{[]record{put(a), put(b), set("t", nameA), set("t", nameB), set("t", nameA)}, true},
		{[]record{put(a), set("t", nameA), set("t", nameA)}, false},
		{[]record{put(a), set("t", nameA), set("u", nameA), set("t", nameA)}, false},
		{[]record{put(a), set("t", nameA), set("t", "")}, true},
		{[]record{put(a), set("t", nameA), set("t", ""), set("t", nameA)}, true},
		{[]record{put(a), set("t", nameA), set("t", ""), set("t", "")}, false},
		{[]record{put(a), set("t", "")}, false},
		{[]record{set("t", "")}, false},
		{[]record{put(a), set("t", nameA), set("u", "")}, false},
		{[]record{put(a), set("", nameA)}, false},
		{[]record{put(a), set("", "")}, false},
		{[]record{put(a), set("T", nameA)}, false},
		{[]record{put(a), set("1", nameA)}, false},
		{[]record{put(a), set(nameA, nameA)}, true},
		{[]record{put(a), set(strings.Repeat("x", 24), nameA)}, true},
		{[]record{put(a), set(strings.Repeat("x", 25), nameA)}, false},
	} {
		for half := range 2 {
			m := medium(70, 6, half, logOf(c.log...))
			s, code := store.Load(m)
			if c.ok && (code != api.OK || !same(s, shelf(70, 6, half, c.log...))) || !c.ok && (code != api.ErrProof || !isEmpty(s)) {
				t.Errorf("%.200s: %d", fmt.Sprint(c.log), code)
			}
		}
	}
}

// P14.1: bytes that are no entries, and pages that are not exactly those of a log.
func TestLoadWrongBytes(t *testing.T) {
	a := thing("a")
	nameA := nameOf(a)
	head := bytesOf(put(a))
	for _, s := range []string{
		"", "i0;", "t0:", "l0:", "l1:i0;", "l2:i0;l0:", "l3:i0;l0:i1;", "l3:i0;t0:t0:", "l3:i0;l0:l0:", "l3:i2;l0:t0:", "l3:i-1;l0:t0:", "l3:t1:0l0:t0:", "l3:l0:l0:t0:", "l4:i0;l0:t0:t0:", "l4:i0;l0:t0:i0;",
		"l3:i0;l1:i5;t0:", "l3:i0;l1:l0:t0:", "l3:i00;l0:t0:", "l3:i0;l0:t0:x", "l3:i0;l0:t1:", "l3:i4294967296;l0:t0:", "l3:i18446744073709551616;l0:t0:",
		"l3:i1;l0:t0:", "l3:i1;t1:tl0:", "l3:i1;t1:ti0;", "l3:i1;i1;t0:", "l2:i1;t1:t", "l3:i0;t1:t" + textOf(nameA), "l3:i2;t1:t" + textOf(nameA), "l3:i-1;t1:t" + textOf(nameA), "l3:t1:1t1:t" + textOf(nameA), "l3:i1;l1:t1:t" + textOf(nameA), "l3:i1;t1:tl1:" + textOf(nameA), "l4:i1;t1:t" + textOf(nameA) + "i0;", "l3:i1;l1:" + textOf(nameA) + "t0:", "l3:i1;t1:t" + textOf(nameA[1:]), "l3:i1;t1:t" + textOf(strings.ToUpper(nameA)), "xxxxxxxxxxxx", "l1:l1:l1:l1:l1:l1:l1:l1:l1:l0:",
	} {
		log := append(paged(head), paged(s)...)
		if got, code := store.Load(medium(20, 3, 1, log)); code != api.ErrProof || !isEmpty(got) {
			t.Errorf("%q: %v, %d", s, got, code)
		}
	}
	good := logOf(put(a), set("t", nameA), put(thing(strings.Repeat("b", 200))), set("u", nameA))
	right := medium(30, 3, 1, good)
	mustLoad(t, right, shelf(30, 3, 1, put(a), set("t", nameA), put(thing(strings.Repeat("b", 200))), set("u", nameA)))
	for used := range 15 {
		m := copyMedium(right)
		copy(m.Pages[1], super(3, 1, used))
		want, code := loaded(m)
		if got, gotCode := store.Load(m); gotCode != code || !same(got, want) || (code == api.OK) != (used == 0 || used == 1 || used == 2 || used == 6 || used == 7) {
			t.Errorf("%d used pages: %v, %d, want %d", used, got, gotCode, code)
		}
	}
	// A length that leads out of the used pages, or beyond all bounds.
	for _, size := range []int{61, 64, 1000, 1 << 16, 1 << 31, 1<<32 - 1, 1<<32 - 4, 0} {
		page := make([]byte, 64)
		copy(page, paged(head)[0])
		binary.BigEndian.PutUint32(page, uint32(size))
		if got, code := store.Load(medium(20, 3, 1, [][]byte{page})); code != api.ErrProof || !isEmpty(got) {
			t.Errorf("length %d: %v, %d", size, got, code)
		}
	}
	for i := 4 + len(head); i < 64; i++ {
		page := paged(head)[0]
		page[i] = 1
		if got, code := store.Load(medium(20, 3, 1, [][]byte{page})); code != api.ErrProof || !isEmpty(got) {
			t.Errorf("byte %d: %v, %d", i, got, code)
		}
	}
}

// P14.1: an entry of each length, so that pages end within and behind it.
func TestLoadLengths(t *testing.T) {
	for n := range 1025 {
		o := thing(strings.Repeat("x", n))
		m := medium(60, 4, 0, logOf(put(o), set("t", nameOf(o))))
		mustLoad(t, m, shelf(60, 4, 0, put(o), set("t", nameOf(o))))
	}
}

// P14.1: media of which some bytes have been changed.
func TestLoadChanged(t *testing.T) {
	count := map[api.Code]int{}
	some(30000, func(r *rand.Rand) {
		size := 8 + r.Intn(20)
		l := randomLog(r, (size-2)/2)
		half, sequence := r.Intn(2), 1+r.Intn(9)
		log := logOf(l...)
		m := medium(size, sequence, half, log)
		// The other superblock has part of the log, or of the other half.
		copy(m.Pages[1-sequence%2], super(sequence-1, pick(r, []int{half, 1 - half}), r.Intn(len(log)+2)))
		used := m.Pages[2+half*((size-2)/2):][:len(log)]
		used = append(slices.Clone(used), m.Pages[0], m.Pages[1])
		for range 1 + r.Intn(2) {
			page := pick(r, used)
			i := r.Intn(1 + bytes.LastIndexFunc(page, func(c rune) bool { return c != 0 }))
			page[max(0, i)] ^= byte(pick(r, []int{1, 2, 4, 255}))
		}
		want, code := loaded(m)
		got, gotCode := store.Load(m)
		count[code]++
		if gotCode != code || !same(got, want) {
			t.Fatalf("Load of %q: %v, %d, want %v, %d", m.Pages, got, gotCode, want, code)
		}
	})
	if min(count[api.OK], count[api.ErrProof]) < 3000 {
		t.Errorf("%v", count)
	}
}

// P14.1: what is a valid shelf, and what is none.
func TestCheck(t *testing.T) {
	some(1000, func(r *rand.Rand) {
		s, _ := randomShelf(r)
		before := copyShelf(s)
		if code := store.Check(s); code != api.OK || !same(s, before) {
			t.Fatalf("Check(%v): %d", before, code)
		}
	})
	for what, s := range invalidShelves() {
		if code := store.Check(s); code != api.ErrArgument {
			t.Errorf("Check of %s: %d", what, code)
		}
	}
}

// P14.1: the used pages are at most a half, and at least those of the entries.
func TestCheckUsed(t *testing.T) {
	some(300, func(r *rand.Rand) {
		s, _ := randomShelf(r)
		pages := 0
		for _, o := range s.Objects {
			pages += len(logOf(put(o)))
		}
		for _, tag := range s.Tags {
			pages += len(logOf(set(tag.Name, tag.Target)))
		}
		for _, size := range []int{s.Size, s.Size + 1, 8, 9, 2*pages + 1, 2*pages + 2, 2*pages + 3, 4096, 4095, 4097, 7} {
			for _, used := range []int{pages - 1, pages, pages + 1, (size - 2) / 2, (size-2)/2 + 1, (size-2)/2 - 1, -1, 0, 2047, 2048, math.MaxInt, math.MinInt} {
				s.Size, s.Used = size, used
				want := api.ErrArgument
				if size >= 8 && size <= 4096 && used >= pages && used <= (size-2)/2 {
					want = api.OK
				}
				if code := store.Check(s); code != want {
					t.Fatalf("Check(%v) with %d pages: %d, want %d", s, pages, code, want)
				}
			}
		}
	})
}

// example is a shelf that is valid.
func example() api.Shelf {
	a, b := thing("a"), thing("b", nameOf(thing("a")))
	return shelf(40, 5, 1, put(a), put(b), set("t", nameOf(a)), set("u", nameOf(b)))
}

// invalidShelves are shelves that are not valid.
func invalidShelves() map[string]api.Shelf {
	all := map[string]api.Shelf{"zero": {}}
	change := func(what string, f func(s *api.Shelf)) {
		s := example()
		s.Used += 4
		f(&s)
		all[what] = s
	}
	for _, n := range []int{-1, math.MinInt, math.MaxInt, 1 << 32, 1<<32 + 1, 1 << 31} {
		change(fmt.Sprintf("size %d", n), func(s *api.Shelf) { s.Size = n })
		change(fmt.Sprintf("sequence number %d", n), func(s *api.Shelf) { s.Sequence = n })
		change(fmt.Sprintf("half %d", n), func(s *api.Shelf) { s.Half = n })
		change(fmt.Sprintf("%d used pages", n), func(s *api.Shelf) { s.Used = n })
	}
	change("size 7", func(s *api.Shelf) { *s = api.Shelf{Size: 7} })
	change("size 0", func(s *api.Shelf) { *s = api.Shelf{} })
	change("size 4097", func(s *api.Shelf) { s.Size = 4097 })
	change("half 2", func(s *api.Shelf) { s.Half = 2 })
	change("20 used pages", func(s *api.Shelf) { s.Used = 20 })
	change("3 used pages", func(s *api.Shelf) { s.Used = 3 })
	change("an object twice", func(s *api.Shelf) { s.Objects = append(s.Objects, s.Objects[0]) })
	change("two objects with a name", func(s *api.Shelf) {
		one, two := clash()
		s.Objects = append(s.Objects, one, two)
	})
	change("the wrong order", func(s *api.Shelf) { slices.Reverse(s.Objects) })
	change("a link to nothing", func(s *api.Shelf) { s.Objects[0].Links = []string{strings.Repeat("0", 32)} })
	change("a link that is no name", func(s *api.Shelf) { s.Objects[1].Links = []string{"a"} })
	change("an empty link", func(s *api.Shelf) { s.Objects[1].Links = []string{""} })
	change("too many links", func(s *api.Shelf) { s.Objects[1].Links = slices.Repeat(s.Objects[1].Links, 17); s.Used = 19 })
	change("too much data", func(s *api.Shelf) { *s = shelf(60, 1, 0, put(thing(strings.Repeat("x", 1025)))) })
	change("a target that is no name", func(s *api.Shelf) { s.Tags[1].Target = "u" })
	change("no target", func(s *api.Shelf) { s.Tags[1].Target = "" })
	change("a target that is not stored", func(s *api.Shelf) { s.Tags[0].Target = strings.Repeat("0", 32) })
	change("tags in the wrong order", func(s *api.Shelf) { slices.Reverse(s.Tags) })
	change("a tag twice", func(s *api.Shelf) { s.Tags[1].Name = "t" })
	change("a tag twice with one target", func(s *api.Shelf) { s.Tags[1] = s.Tags[0] })
	change("tags without objects", func(s *api.Shelf) { s.Objects = nil })
	for _, name := range badTags() {
		change(fmt.Sprintf("the tag %q", name), func(s *api.Shelf) { s.Tags = []api.Tag{{Name: name, Target: s.Tags[0].Target}} })
	}
	return all
}

// badTags are no tag names.
func badTags() []string {
	x24, zero := strings.Repeat("x", 24), strings.Repeat("0", 32)
	l := []string{"", "A", "1", ".", "-", "_", "1a", ".a", "-a", "aA", "a_", "a b", " a", "a ", "a\n", "a\x00", "é", "aé", "a\xff", "\xff", "a/", "a:", "a`", "a{", "`", "{", x24 + "x", x24 + ".", zero[1:], zero + "0", "a" + zero, strings.Repeat("g", 32), strings.Repeat("A", 32), strings.Repeat("a", 31), strings.Repeat("a", 33), zero[:31] + "A", zero[:31] + ".", "ß", strings.Repeat("é", 16)}
	for c := range 256 {
		if !strings.Contains("abcdefghijklmnopqrstuvwxyz0123456789.-", string(rune(c))) || c > 127 {
			l = append(l, "a"+string([]byte{byte(c)}), "a"+string([]byte{byte(c)})+"b")
		}
		if c < 'a' || c > 'z' {
			l = append(l, string([]byte{byte(c)}), string([]byte{byte(c), 'a'}))
		}
	}
	return l
}

// goodTags are tag names.
func goodTags() []string {
	l := []string{"a", "z", "a0", "a9", "a.", "a-", "a--..", strings.Repeat("x", 24), "z" + strings.Repeat("-", 23), "a1234567890.abc-def", strings.Repeat("0", 32), strings.Repeat("a", 32), strings.Repeat("f9", 16), "0123456789abcdef0123456789abcdef"}
	for c := 'a'; c <= 'z'; c++ {
		l = append(l, string(c), "b"+string(c))
	}
	return l
}
