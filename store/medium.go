package store

import (
	"bytes"
	"slices"

	"fiducial/api"
)

// The numbers of pages that a medium may have.
const (
	minPages = 8
	maxPages = 4096
)

// Format returns a medium with an empty store.
func Format(pages int) (api.Medium, api.Code) {
	if !within(pages, minPages, maxPages) {
		return api.Medium{}, api.ErrRange
	}
	m := api.Medium{Pages: cut(make([]byte, pages*api.PageSize)), Left: -1}
	copy(m.Pages[0], superblock(api.Shelf{Size: pages}))
	return m, api.OK
}

// Perform performs acts on a medium.
func Perform(m api.Medium, acts []api.Act) (api.Medium, api.Code) {
	isWrong := func(a api.Act) bool { return !isAct(a, len(m.Pages)) }
	if !isMedium(m) || slices.ContainsFunc(acts, isWrong) {
		return api.Medium{}, api.ErrArgument
	}
	m = copiedMedium(m)
	if m.Down {
		return m, api.ErrDown
	}
	for _, a := range acts {
		if m.Left == 0 {
			m.Down = true
			return m, api.ErrDown
		}
		if m.Left > 0 {
			m.Left--
		}
		perform(&m, a)
	}
	return m, api.OK
}

// perform performs an act on a medium, which it changes.
func perform(m *api.Medium, a api.Act) {
	if !a.Barrier {
		m.Pending = append(m.Pending, copiedAct(a))
		return
	}
	for _, w := range m.Pending {
		copy(m.Pages[w.Page], w.Data)
	}
	m.Pending = nil
}

// Crash returns the medium after a power failure that keeps the pending writes whose elements of keep are true.
func Crash(m api.Medium, keep []bool) (api.Medium, api.Code) {
	if !isMedium(m) {
		return api.Medium{}, api.ErrArgument
	}
	result := api.Medium{Pages: copiedPages(m.Pages), Left: -1}
	for i, w := range m.Pending {
		if i < len(keep) && keep[i] {
			copy(result.Pages[w.Page], w.Data)
		}
	}
	return result, api.OK
}

// isMedium reports whether m is valid.
func isMedium(m api.Medium) bool {
	isNoPage := func(page []byte) bool { return len(page) != api.PageSize }
	isNoWrite := func(a api.Act) bool { return a.Barrier || !isAct(a, len(m.Pages)) }
	return within(len(m.Pages), minPages, maxPages) && !slices.ContainsFunc(m.Pages, isNoPage) && !slices.ContainsFunc(m.Pending, isNoWrite)
}

// isAct reports whether an act is valid for a medium with so many pages.
func isAct(a api.Act, pages int) bool {
	if a.Barrier {
		return a.Page == 0 && len(a.Data) == 0
	}
	return within(a.Page, 0, pages-1) && len(a.Data) == api.PageSize
}

// copiedMedium returns m in new memory.
func copiedMedium(m api.Medium) api.Medium {
	m.Pages = copiedPages(m.Pages)
	m.Pending = slices.Clone(m.Pending)
	for i, w := range m.Pending {
		m.Pending[i] = copiedAct(w)
	}
	return m
}

// copiedPages returns pages in new memory.
func copiedPages(pages [][]byte) [][]byte {
	return cut(bytes.Join(pages, nil))
}

// copiedAct returns an act in new memory.
func copiedAct(a api.Act) api.Act {
	a.Data = bytes.Clone(a.Data)
	return a
}
