package store

import (
	"bytes"
	"maps"
	"slices"

	"fiducial/api"
	"fiducial/codec"
	"fiducial/integer"
)

// The kinds of entries of a log.
const (
	kindObject = iota
	kindTag
)

// headSize is the number of bytes of the length of an entry.
const headSize = 4

// objectEntry returns the entry of an object as a value; it keeps the data.
func objectEntry(o api.Object) api.Value {
	return list(number(kindObject), linksOf(o), text(o.Data))
}

// tagEntry returns the entry of a tag, which is removed if it has no target, as a value.
func tagEntry(t api.Tag) api.Value {
	return list(number(kindTag), text([]byte(t.Name)), text([]byte(t.Target)))
}

// linksOf returns the list of the links of an object as a value.
func linksOf(o api.Object) api.Value {
	links := list()
	for _, link := range o.Links {
		links.List = append(links.List, text([]byte(link)))
	}
	return links
}

// number returns an integer as a value.
func number(n int) api.Value {
	return api.Value{Kind: api.ValueInt, Int: integer.Of(n)}
}

// text returns a text as a value.
func text(b []byte) api.Value {
	return api.Value{Kind: api.ValueText, Text: b}
}

// list returns a list as a value.
func list(l ...api.Value) api.Value {
	return api.Value{Kind: api.ValueList, List: l}
}

// pageCount returns the number of pages of an entry.
func pageCount(entry api.Value) int {
	size, _ := codec.Size(entry)
	return pagesFor(headSize + size)
}

// pagesFor returns the number of pages that so many bytes take.
func pagesFor(size int) int {
	return (size + api.PageSize - 1) / api.PageSize
}

// pagesOf returns the pages of some entries, one behind the other.
func pagesOf(entries ...api.Value) [][]byte {
	var buffer bytes.Buffer
	for _, e := range entries {
		b, _ := codec.Encode(e)
		var head [headSize]byte
		setNumber(head[:], len(b))
		buffer.Write(head[:])
		buffer.Write(b)
		buffer.Write(make([]byte, api.PageSize*pagesFor(buffer.Len())-buffer.Len()))
	}
	return cut(buffer.Bytes())
}

// cut returns the pages of a buffer, which keep its memory but do not reach into one another.
func cut(buffer []byte) [][]byte {
	var pages [][]byte
	for from := 0; from < len(buffer); from += api.PageSize {
		to := from + api.PageSize
		pages = append(pages, buffer[from:to:to])
	}
	return pages
}

// setNumber writes n as the first four bytes of b, the most significant one first.
func setNumber(b []byte, n int) {
	b[0], b[1], b[2], b[3] = byte(n>>24), byte(n>>16), byte(n>>8), byte(n)
}

// numberOf returns the number that the first four bytes of b are.
func numberOf(b []byte) int {
	return int(b[0])<<24 | int(b[1])<<16 | int(b[2])<<8 | int(b[3])
}

// contents are the objects and tags that the beginning of a log has.
type contents struct {
	catalogue
	objects []api.Object
	tags    map[string]string
}

// contentsOf returns what a log of these pages has, and whether they are exactly those of a log.
func contentsOf(pages [][]byte) (contents, bool) {
	c := contents{catalogue: newCatalogue(), tags: map[string]string{}}
	log := bytes.Join(pages, nil)
	for len(log) > 0 {
		entry, rest, ok := firstEntry(log)
		if !ok || !c.take(entry) {
			return contents{}, false
		}
		log = rest
	}
	return c, true
}

// firstEntry returns the entry at the beginning of whole pages, the pages behind it, and whether there is one.
func firstEntry(log []byte) (entry api.Value, rest []byte, ok bool) {
	end := headSize + numberOf(log)
	if end > len(log) {
		return api.Value{}, nil, false
	}
	next := api.PageSize * pagesFor(end)
	entry, code := codec.Decode(log[headSize:end])
	return entry, log[next:], code == api.OK && isBlank(log[end:next])
}

// isBlank reports whether all bytes are 0.
func isBlank(b []byte) bool {
	return !slices.ContainsFunc(b, func(c byte) bool { return c != 0 })
}

// take takes a further entry, and reports whether it may stand behind the others.
func (c *contents) take(entry api.Value) bool {
	if len(entry.List) != 3 {
		return false
	}
	second, third := entry.List[1], entry.List[2]
	o := api.Object{Data: third.Text}
	for _, link := range second.List {
		o.Links = append(o.Links, string(link.Text))
	}
	t := api.Tag{Name: string(second.Text), Target: string(third.Text)}
	switch {
	case codec.Equal(entry, objectEntry(o)):
		c.objects = append(c.objects, o)
		return c.add(o)
	case codec.Equal(entry, tagEntry(t)):
		return c.setTag(t)
	}
	return false
}

// setTag sets a tag, or removes it, and reports whether it may and the value is new.
func (c *contents) setTag(t api.Tag) bool {
	old, isSet := c.tags[t.Name]
	if t.Target == "" {
		delete(c.tags, t.Name)
		return isSet
	}
	c.tags[t.Name] = t.Target
	return isTagName(t.Name) && c.has(t.Target) && t.Target != old
}

// sortedTags returns the tags in the order of their names.
func (c *contents) sortedTags() []api.Tag {
	var tags []api.Tag
	for _, name := range slices.Sorted(maps.Keys(c.tags)) {
		tags = append(tags, api.Tag{Name: name, Target: c.tags[name]})
	}
	return tags
}
