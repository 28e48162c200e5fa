package store_test

import (
	"bytes"
	"encoding/binary"
	"encoding/hex"
	"fmt"
	"maps"
	"math/rand"
	"regexp"
	"slices"
	"strconv"
	"strings"
	"testing"

	"fiducial/api"
	"fiducial/codec"
	"fiducial/store"
)

// Two texts of 96 bytes that, as the data of objects without links, give both the same name.
const (
	clashOne = "12011d1d0f64060a397c601b1673de0c0f6b152b023b0010e302220a1f3d06030b2c72f92a0e0304053a03120670541d16083f186928097c04073117000000000000000000000000270b063b0c78092a0f710f1318221436050d0a2505701e20"
	clashTwo = "191805043d16370501171e1f0e000d2a3f023567e11e100d095e390cf2023af6031710000400f219181711210e6ff9103d160a01d703031863080d07203e1713390f610b0736281b373123173b08f775156e050113052e72147216570b1f3922"
)

// greatest is the greatest sequence number.
const greatest = 1<<31 - 1

// record is an entry of a log: an object, or a tag if it is one.
type record struct {
	isTag  bool
	object api.Object
	tag    api.Tag
}

// put and set are the records of an object and of a tag.
func put(o api.Object) record { return record{object: o} }
func set(name, target string) record {
	return record{isTag: true, tag: api.Tag{Name: name, Target: target}}
}
func thing(s string, l ...string) api.Object { return api.Object{Data: []byte(s), Links: l} }

// unhex are the bytes of hexadecimal digits.
func unhex(s string) []byte {
	b, err := hex.DecodeString(s)
	if err != nil {
		panic(err)
	}
	return b
}

// clash are two different objects with the same name.
func clash() (api.Object, api.Object) {
	return api.Object{Data: unhex(clashOne)}, api.Object{Data: unhex(clashTwo)}
}

// textOf and linksOf are the canonical bytes of a text and of the list of some texts.
func textOf(s string) string { return fmt.Sprintf("t%d:%s", len(s), s) }
func linksOf(l []string) string {
	s := fmt.Sprintf("l%d:", len(l))
	for _, link := range l {
		s += textOf(link)
	}
	return s
}

// nameOf is the name of an object, as the chapter defines it.
func nameOf(o api.Object) string {
	return codec.Name([]byte("l2:" + linksOf(o.Links) + textOf(string(o.Data))))
}

// bytesOf are the bytes of an entry.
func bytesOf(e record) string {
	if e.isTag {
		return "l3:i1;" + textOf(e.tag.Name) + textOf(e.tag.Target)
	}
	return "l3:i0;" + linksOf(e.object.Links) + textOf(string(e.object.Data))
}

// paged are the pages of an entry with some bytes.
func paged(s string) [][]byte {
	b := append(binary.BigEndian.AppendUint32(nil, uint32(len(s))), s...)
	for len(b)%64 != 0 {
		b = append(b, 0)
	}
	return slices.Collect(slices.Chunk(b, 64))
}

// logOf are the pages of a log.
func logOf(l ...record) [][]byte {
	var pages [][]byte
	for _, e := range l {
		pages = append(pages, paged(bytesOf(e))...)
	}
	return pages
}

// super is a superblock.
func super(sequence, half, used int) []byte {
	b := binary.BigEndian.AppendUint32([]byte("FSB1"), uint32(sequence))
	b = binary.BigEndian.AppendUint32(append(b, byte(half)), uint32(used))
	return append(b, make([]byte, 64-len(b))...)
}

// blank is a medium of zeros.
func blank(size int) api.Medium {
	m := api.Medium{Left: -1}
	for range size {
		m.Pages = append(m.Pages, make([]byte, 64))
	}
	return m
}

// medium is a medium with a superblock in its place and a log in a half.
func medium(size, sequence, half int, log [][]byte) api.Medium {
	m := blank(size)
	copy(m.Pages[sequence%2], super(sequence, half, len(log)))
	for i, page := range log {
		copy(m.Pages[2+half*((size-2)/2)+i], page)
	}
	return m
}

// shelf is the shelf of such a medium.
func shelf(size, sequence, half int, l ...record) api.Shelf {
	s := api.Shelf{Size: size, Sequence: sequence, Half: half, Used: len(logOf(l...))}
	tags := map[string]string{}
	for _, e := range l {
		switch {
		case !e.isTag:
			s.Objects = append(s.Objects, e.object)
		case e.tag.Target == "":
			delete(tags, e.tag.Name)
		default:
			tags[e.tag.Name] = e.tag.Target
		}
	}
	for _, name := range slices.Sorted(maps.Keys(tags)) {
		s.Tags = append(s.Tags, api.Tag{Name: name, Target: tags[name]})
	}
	return s
}

var (
	objectForm = regexp.MustCompile(`(?s)^l3:i0;l(0|[1-9]\d*):((?:t32:[0-9a-f]{32})*)t(0|[1-9]\d*):(.*)$`)
	tagForm    = regexp.MustCompile(`(?s)^l3:i1;t([1-9]\d*):([a-z0-9.-]+)t(0:|32:[0-9a-f]{32})$`)
	tagName    = regexp.MustCompile(`^(?:[a-z][a-z0-9.-]{0,23}|[0-9a-f]{32})$`)
	objectName = regexp.MustCompile(`^[0-9a-f]{32}$`)
)

// parsed is the entry with some bytes, and whether there is one that could stand in a log.
func parsed(s string) (record, bool) {
	if p := tagForm.FindStringSubmatch(s); p != nil {
		_, target, _ := strings.Cut(p[3], ":")
		return set(p[2], target), p[1] == strconv.Itoa(len(p[2])) && tagName.MatchString(p[2])
	}
	p := objectForm.FindStringSubmatch(s)
	if p == nil {
		return record{}, false
	}
	o := api.Object{Data: []byte(p[4])}
	for part := range slices.Chunk([]byte(p[2]), 36) {
		o.Links = append(o.Links, string(part[4:]))
	}
	return put(o), p[1] == strconv.Itoa(len(o.Links)) && p[3] == strconv.Itoa(len(o.Data)) && len(o.Links) <= 16 && len(o.Data) <= 1024
}

// follows reports whether an entry may stand behind others.
func follows(l []record, e record) bool {
	names := map[string]bool{}
	values := map[string]string{}
	for _, f := range l {
		if f.isTag {
			values[f.tag.Name] = f.tag.Target
		} else {
			names[nameOf(f.object)] = true
		}
	}
	if e.isTag {
		return (names[e.tag.Target] || e.tag.Target == "") && values[e.tag.Name] != e.tag.Target
	}
	for _, link := range e.object.Links {
		if !names[link] {
			return false
		}
	}
	return !names[nameOf(e.object)]
}

// entries are those of a log that has exactly these pages, and whether there is one.
func entries(pages [][]byte) ([]record, bool) {
	var l []record
	for len(pages) > 0 {
		size := int(binary.BigEndian.Uint32(pages[0]))
		count := (size + 67) / 64
		if count > len(pages) {
			return nil, false
		}
		all := string(bytes.Join(pages[:count], nil))
		e, ok := parsed(all[4 : 4+size])
		if !ok || strings.Trim(all[4+size:], "\x00") != "" || !follows(l, e) {
			return nil, false
		}
		l = append(l, e)
		pages = pages[count:]
	}
	return l, true
}

// loaded is what Load should return for a valid medium that is not down.
func loaded(m api.Medium) (api.Shelf, api.Code) {
	pages := slices.Clone(m.Pages)
	for _, w := range m.Pending {
		pages[w.Page] = w.Data
	}
	size := len(pages)
	sequence, half, used, code := -1, 0, 0, api.ErrMissing
	for place, page := range pages[:2] {
		q, h, u := int(binary.BigEndian.Uint32(page[4:])), int(page[8]), int(binary.BigEndian.Uint32(page[9:]))
		if !bytes.Equal(page, super(q, h, u)) || q%2 != place {
			continue
		}
		code = api.ErrProof
		if h < 2 && u <= (size-2)/2 && q > sequence {
			sequence, half, used = q, h, u
		}
	}
	if sequence < 0 || sequence > greatest {
		return api.Shelf{}, code
	}
	first := 2 + half*((size-2)/2)
	l, ok := entries(pages[first : first+used])
	if !ok {
		return api.Shelf{}, api.ErrProof
	}
	return shelf(size, sequence, half, l...), api.OK
}

// sameObject, same and sameMedium report whether two values are equal; nil and empty lists are.
func sameObject(a, b api.Object) bool {
	return slices.Equal(a.Links, b.Links) && bytes.Equal(a.Data, b.Data)
}

func same(a, b api.Shelf) bool {
	return a.Size == b.Size && a.Sequence == b.Sequence && a.Half == b.Half && a.Used == b.Used && slices.EqualFunc(a.Objects, b.Objects, sameObject) && slices.Equal(a.Tags, b.Tags)
}

func sameAct(a, b api.Act) bool {
	return a.Page == b.Page && a.Barrier == b.Barrier && bytes.Equal(a.Data, b.Data)
}

func sameMedium(a, b api.Medium) bool {
	return a.Left == b.Left && a.Down == b.Down && slices.EqualFunc(a.Pages, b.Pages, bytes.Equal) && slices.EqualFunc(a.Pending, b.Pending, sameAct)
}

// copyObject, copyShelf, copyActs and copyMedium are copies in new memory.
func copyObject(o api.Object) api.Object {
	return api.Object{Links: slices.Clone(o.Links), Data: slices.Clone(o.Data)}
}

func copyShelf(s api.Shelf) api.Shelf {
	var objects []api.Object
	for _, o := range s.Objects {
		objects = append(objects, copyObject(o))
	}
	s.Objects, s.Tags = objects, slices.Clone(s.Tags)
	return s
}

func copyActs(l []api.Act) []api.Act {
	l = slices.Clone(l)
	for i, a := range l {
		l[i].Data = slices.Clone(a.Data)
	}
	return l
}

func copyMedium(m api.Medium) api.Medium {
	m.Pages, m.Pending = slices.Clone(m.Pages), copyActs(m.Pending)
	for i, page := range m.Pages {
		m.Pages[i] = slices.Clone(page)
	}
	return m
}

// spoilObject, spoilShelf, spoilActs and spoilMedium overwrite the memory of a value, and what lies behind it.
func spoilObject(o api.Object) {
	for i := range o.Links {
		o.Links[i] = "spoilt"
	}
	_ = append(o.Links, "spoilt")
	spoilBytes(o.Data)
}

func spoilBytes(b []byte) {
	for i := range b {
		b[i] = '#'
	}
	_ = append(b, '#')
}

func spoilShelf(s api.Shelf) {
	for i, o := range s.Objects {
		spoilObject(o)
		s.Objects[i] = thing("spoilt")
	}
	_ = append(s.Objects, thing("spoilt"))
	for i := range s.Tags {
		s.Tags[i] = api.Tag{Name: "spoilt"}
	}
	_ = append(s.Tags, api.Tag{Name: "spoilt"})
}

func spoilActs(l []api.Act) {
	for i, a := range l {
		spoilBytes(a.Data)
		l[i] = api.Act{Page: -1}
	}
	_ = append(l, api.Act{Page: -1})
}

func spoilMedium(m api.Medium) {
	spoilActs(m.Pending)
	for i, page := range m.Pages {
		spoilBytes(page)
		m.Pages[i] = nil
	}
}

// some calls check many times.
func some(rounds int, check func(r *rand.Rand)) {
	r := rand.New(rand.NewSource(14))
	for range rounds {
		check(r)
	}
}

// pick is an element of a list.
func pick[T any](r *rand.Rand, l []T) T { return l[r.Intn(len(l))] }

// randomObject is an object with links to some of the names.
func randomObject(r *rand.Rand, names []string, most int) api.Object {
	o := api.Object{Data: make([]byte, r.Intn(most+1))}
	r.Read(o.Data)
	for range r.Intn(4) {
		if len(names) > 0 {
			o.Links = append(o.Links, pick(r, names))
		}
	}
	return o
}

// randomTag is one of a few tag names.
func randomTag(r *rand.Rand) string {
	return pick(r, []string{"a", "b", "a-", "a.1", "z9", "head", "abcdefghijklmnopqrstuv.-", strings.Repeat("0", 32), "f" + strings.Repeat("9", 31)})
}

// randomLog is a log of at most so many pages.
func randomLog(r *rand.Rand, most int) []record {
	var l []record
	var names []string
	for range r.Intn(12) {
		e := put(randomObject(r, names, 90))
		if len(names) > 0 && r.Intn(2) == 0 {
			e = set(randomTag(r), pick(r, names))
			if r.Intn(3) == 0 {
				e.tag.Target = ""
			}
		}
		if !follows(l, e) || len(logOf(append(slices.Clone(l), e)...)) > most {
			continue
		}
		l = append(l, e)
		if !e.isTag {
			names = append(names, nameOf(e.object))
		}
	}
	return l
}

// randomShelf is a shelf with a log.
func randomShelf(r *rand.Rand) (api.Shelf, []record) {
	size := 8 + r.Intn(60)
	l := randomLog(r, (size-2)/2)
	return shelf(size, pick(r, []int{0, 1, 2, r.Intn(1 << 30), greatest - 1, greatest - 2}), r.Intn(2), l...), l
}

// mustLoad fails the test if the shelf of a medium is not s.
func mustLoad(t *testing.T, m api.Medium, s api.Shelf) {
	t.Helper()
	before := copyMedium(m)
	got, code := store.Load(m)
	if code != api.OK || !same(got, s) {
		t.Fatalf("Load = %v, %d, want %v", got, code, s)
	}
	if !sameMedium(m, before) {
		t.Fatal("Load has changed the medium")
	}
}

// isEmpty reports whether s is the zero value.
func isEmpty(s api.Shelf) bool { return same(s, api.Shelf{}) }
