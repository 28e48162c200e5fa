package frame

import (
	"slices"
	"strings"

	"fiducial/api"
)

const (
	maxKey   = 24  // bytes of a key
	maxValue = 120 // bytes of a value
)

// checkMeta returns OK if a list has the form of metadata.
func checkMeta(l []api.Entry) api.Code {
	if len(l) > api.MaxEntries {
		return api.ErrLimit
	}
	for i, e := range l {
		if !isKey(e.Key) {
			return api.ErrName
		}
		if i > 0 && l[i-1].Key >= e.Key {
			return api.ErrOrder
		}
		if code := checkValue(e.Value); code != api.OK {
			return code
		}
	}
	return api.OK
}

// isKey reports whether s is a key.
func isKey(s string) bool {
	isLetter := func(c rune) bool { return 'a' <= c && c <= 'z' }
	isOther := func(c rune) bool { return !isLetter(c) && !('0' <= c && c <= '9') && c != '_' }
	return within(len(s), 1, maxKey) && isLetter(rune(s[0])) && !strings.ContainsFunc(s, isOther)
}

// checkValue returns OK if s is a value.
func checkValue(s string) api.Code {
	if len(s) > maxValue {
		return api.ErrLong
	}
	if strings.ContainsFunc(s, func(c rune) bool { return c < ' ' || c > '~' }) {
		return api.ErrSyntax
	}
	return api.OK
}

// find returns where a key stands or would stand in metadata, and whether it is there.
func find(l []api.Entry, key string) (int, bool) {
	return slices.BinarySearchFunc(l, key, func(e api.Entry, key string) int { return strings.Compare(e.Key, key) })
}
