package store

import (
	"bytes"
	"cmp"
	"slices"

	"fiducial/api"
)

// magic are the first bytes of a superblock.
const magic = "FSB1"

// The places of the numbers in a superblock, behind its first bytes.
const (
	atSequence = 4
	atHalf     = 8
	atUsed     = 9
)

// Load returns the shelf of a medium.
func Load(m api.Medium) (api.Shelf, api.Code) {
	if !isMedium(m) {
		return api.Shelf{}, api.ErrArgument
	}
	if m.Down {
		return api.Shelf{}, api.ErrDown
	}
	pages := shown(m)
	s, code := newest(pages)
	if code != api.OK {
		return api.Shelf{}, code
	}
	c, ok := contentsOf(pages[start(s) : start(s)+s.Used])
	if !ok {
		return api.Shelf{}, api.ErrProof
	}
	s.Objects, s.Tags = c.objects, c.sortedTags()
	return s, api.OK
}

// shown returns the pages that a medium shows, in its memory.
func shown(m api.Medium) [][]byte {
	pages := slices.Clone(m.Pages)
	for _, w := range m.Pending {
		pages[w.Page] = w.Data
	}
	return pages
}

// newest returns the numbers of the superblock that counts. ErrMissing: none is in its place; ErrProof: none of those can count, or the one that counts has too great a sequence number.
func newest(pages [][]byte) (api.Shelf, api.Code) {
	code := api.ErrMissing
	var able []api.Shelf
	for place := range 2 {
		s, ok := superblockOn(pages, place)
		if ok {
			code = api.ErrProof
		}
		if ok && within(s.Half, 0, 1) && within(s.Used, 0, halfSize(s.Size)) {
			able = append(able, s)
		}
	}
	if len(able) == 0 {
		return api.Shelf{}, code
	}
	s := slices.MaxFunc(able, func(a, b api.Shelf) int { return cmp.Compare(a.Sequence, b.Sequence) })
	if s.Sequence > maxSequence {
		return api.Shelf{}, code
	}
	return s, api.OK
}

// superblockOn returns the numbers of the superblock on one of the first two pages, and whether there is one that is in its place.
func superblockOn(pages [][]byte, place int) (api.Shelf, bool) {
	page := pages[place]
	s := api.Shelf{Size: len(pages), Sequence: numberOf(page[atSequence:]), Half: int(page[atHalf]), Used: numberOf(page[atUsed:])}
	return s, s.Sequence%2 == place && bytes.Equal(page, superblock(s))
}

// superblock returns the page with the numbers of s.
func superblock(s api.Shelf) []byte {
	page := make([]byte, api.PageSize)
	copy(page, magic)
	setNumber(page[atSequence:], s.Sequence)
	page[atHalf] = byte(s.Half)
	setNumber(page[atUsed:], s.Used)
	return page
}

// halfSize returns the number of pages of a half of a medium with so many pages.
func halfSize(pages int) int {
	return (pages - 2) / 2
}

// start returns the first page of the half of s.
func start(s api.Shelf) int {
	return 2 + s.Half*halfSize(s.Size)
}
