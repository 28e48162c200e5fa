package codec

import (
	"math/bits"

	"fiducial/api"
)

// The numbers of the digest: the first word begins with start and is multiplied by factor, with which the second word begins.
const (
	start  = 14695981039346656037
	factor = 1099511628211
)

const (
	nameLength = 32 // digits of a name
	hexDigits  = "0123456789abcdef"
)

// Sum returns the digest of bytes.
func Sum(b []byte) api.Digest {
	var x, y uint64 = start, factor
	take := func(c byte) {
		x = (x ^ uint64(c)) * factor
		y = (bits.RotateLeft64(y, 5) + x) ^ uint64(c)
	}
	for _, c := range b {
		take(c)
	}
	for i := range 8 {
		take(byte(len(b) >> (8 * i)))
	}
	var d api.Digest
	for i := range 8 {
		d[7-i] = byte(x >> (8 * i))
		d[15-i] = byte(y >> (8 * i))
	}
	return d
}

// Name returns the 32 hexadecimal digits of the digest of bytes.
func Name(b []byte) string {
	var name [nameLength]byte
	for i, c := range Sum(b) {
		name[2*i], name[2*i+1] = hexDigits[c>>4], hexDigits[c&15]
	}
	return string(name[:])
}

// IsName reports whether s has the form of a name.
func IsName(s string) bool {
	if len(s) != nameLength {
		return false
	}
	for i := range len(s) {
		isDigit := '0' <= s[i] && s[i] <= '9' || 'a' <= s[i] && s[i] <= 'f'
		if !isDigit {
			return false
		}
	}
	return true
}
