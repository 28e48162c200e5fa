package store

import (
	"bytes"
	"slices"
	"strings"

	"fiducial/api"
	"fiducial/codec"
)

const (
	maxLinks    = 16        // links of an object
	maxData     = 1024      // bytes of the data of an object
	maxSequence = 1<<31 - 1 // sequence number of a superblock
)

// Check returns OK if s is a valid shelf.
func Check(s api.Shelf) api.Code {
	_, code := catalogueOf(s)
	return code
}

// Name returns the name of an object.
func Name(o api.Object) (string, api.Code) {
	if len(o.Links) > maxLinks || len(o.Data) > maxData {
		return "", api.ErrLimit
	}
	if slices.ContainsFunc(o.Links, func(link string) bool { return !codec.IsName(link) }) {
		return "", api.ErrName
	}
	// Objects within these limits are far below those of the encoding.
	b, _ := codec.Encode(list(linksOf(o), text(o.Data)))
	return codec.Name(b), api.OK
}

// catalogue has the names of some objects in their order, and the index of the object with each name.
type catalogue struct {
	names  []string
	places map[string]int
}

// has reports whether there is an object with a name.
func (c *catalogue) has(name string) bool {
	_, ok := c.places[name]
	return ok
}

// hasAll reports whether there are objects with all these names.
func (c *catalogue) hasAll(names []string) bool {
	return !slices.ContainsFunc(names, func(name string) bool { return !c.has(name) })
}

// add takes a further object, and reports whether it may stand behind the others.
func (c *catalogue) add(o api.Object) bool {
	name, code := Name(o)
	if code != api.OK || c.has(name) || !c.hasAll(o.Links) {
		return false
	}
	c.places[name] = len(c.names)
	c.names = append(c.names, name)
	return true
}

// reached reports for each object whether it can be reached from those with the given names.
func (c *catalogue) reached(objects []api.Object, names []string) []bool {
	isReached := make([]bool, len(objects))
	mark := func(names []string) {
		for _, name := range names {
			isReached[c.places[name]] = true
		}
	}
	mark(names)
	// One round is enough, because links lead to earlier objects.
	for i, o := range slices.Backward(objects) {
		if isReached[i] {
			mark(o.Links)
		}
	}
	return isReached
}

// newCatalogue returns the catalogue of no objects.
func newCatalogue() catalogue {
	return catalogue{places: map[string]int{}}
}

// catalogueOf returns the catalogue of the objects of s, or ErrArgument if s is not valid.
func catalogueOf(s api.Shelf) (catalogue, api.Code) {
	c := newCatalogue()
	pages := 0
	for _, o := range s.Objects {
		if !c.add(o) {
			return catalogue{}, api.ErrArgument
		}
		pages += pageCount(objectEntry(o))
	}
	for i, t := range s.Tags {
		isBehind := i == 0 || s.Tags[i-1].Name < t.Name
		if !isBehind || !isTagName(t.Name) || !c.has(t.Target) {
			return catalogue{}, api.ErrArgument
		}
		pages += pageCount(tagEntry(t))
	}
	if !hasForm(s) || s.Used < pages {
		return catalogue{}, api.ErrArgument
	}
	return c, api.OK
}

// hasForm reports whether the numbers of s are in their ranges.
func hasForm(s api.Shelf) bool {
	return within(s.Size, minPages, maxPages) && within(s.Sequence, 0, maxSequence) && within(s.Half, 0, 1) && within(s.Used, 0, halfSize(s.Size))
}

// within reports whether n is from low to high.
func within(n, low, high int) bool {
	return low <= n && n <= high
}

// isTagName reports whether s is a tag name.
func isTagName(s string) bool {
	isLetter := func(c rune) bool { return 'a' <= c && c <= 'z' }
	isOther := func(c rune) bool { return !isLetter(c) && !('0' <= c && c <= '9') && c != '.' && c != '-' }
	if codec.IsName(s) {
		return true
	}
	return within(len(s), 1, api.MaxName) && isLetter(rune(s[0])) && !strings.ContainsFunc(s, isOther)
}

// findTag returns where a tag stands or would stand in the order of the names, and whether it is there.
func findTag(tags []api.Tag, name string) (int, bool) {
	return slices.BinarySearchFunc(tags, name, func(t api.Tag, name string) int { return strings.Compare(t.Name, name) })
}

// sameObject reports whether two objects are the same.
func sameObject(o, p api.Object) bool {
	return slices.Equal(o.Links, p.Links) && bytes.Equal(o.Data, p.Data)
}

// copiedObject returns o in new memory.
func copiedObject(o api.Object) api.Object {
	return api.Object{Links: slices.Clone(o.Links), Data: bytes.Clone(o.Data)}
}

// copiedShelf returns s in new memory.
func copiedShelf(s api.Shelf) api.Shelf {
	s.Tags = slices.Clone(s.Tags)
	s.Objects = slices.Clone(s.Objects)
	for i, o := range s.Objects {
		s.Objects[i] = copiedObject(o)
	}
	return s
}
