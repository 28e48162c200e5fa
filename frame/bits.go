package frame

import (
	"slices"

	"fiducial/api"
)

// maxParameter is the greatest parameter of a row.
const maxParameter = 16

// Bits returns the number of bits of a row of residuals with the parameter k.
func Bits(row []int, k int) (int, api.Code) {
	if !within(k, 0, maxParameter) {
		return 0, api.ErrRange
	}
	if code := checkRow(row); code != api.OK {
		return 0, code
	}
	return bitsOf(row, k), api.OK
}

// Best returns the parameter with which a row of residuals has the fewest bits, and this number.
func Best(row []int) (int, int, api.Code) {
	if code := checkRow(row); code != api.OK {
		return 0, 0, code
	}
	k, bits := best(row)
	return k, bits, api.OK
}

// checkRow returns OK if the elements of a list can be the residuals of a row.
func checkRow(row []int) api.Code {
	if len(row) > api.MaxPixel {
		return api.ErrLimit
	}
	if slices.ContainsFunc(row, func(v int) bool { return !within(v, 0, api.MaxGrey) }) {
		return api.ErrRange
	}
	return api.OK
}

// bitsOf returns the number of bits of the codes of residuals with the parameter k.
func bitsOf(row []int, k int) int {
	bits := 0
	for _, v := range row {
		bits += v>>k + 1 + k
	}
	return bits
}

// best returns the least parameter with which residuals have the fewest bits, and this number.
func best(row []int) (k, bits int) {
	bits = bitsOf(row, 0)
	for other := 1; other <= maxParameter; other++ {
		if n := bitsOf(row, other); n < bits {
			k, bits = other, n
		}
	}
	return k, bits
}

// encode passes on the bits of the code of v with the parameter k.
func encode(v, k int, put func(bit int)) {
	for range v >> k {
		put(1)
	}
	put(0)
	for i := k - 1; i >= 0; i-- {
		put(v >> i & 1)
	}
}

// decode returns the number whose code with the parameter k consists of the next bits.
func decode(k int, next func() int) int {
	v := 0
	for next() == 1 {
		v++
	}
	for range k {
		v = v<<1 | next()
	}
	return v
}

// writer appends bytes and bits to bytes.
type writer struct {
	bytes []byte
	free  int // bits of the last byte that are still to be written
}

// byte appends a byte; bits of the one before that are still free remain 0.
func (w *writer) byte(b byte) {
	w.bytes, w.free = append(w.bytes, b), 0
}

// bit appends a bit.
func (w *writer) bit(b int) {
	if w.free == 0 {
		w.bytes, w.free = append(w.bytes, 0), 8
	}
	w.free--
	w.bytes[len(w.bytes)-1] |= byte(b << w.free)
}

// reader reads bytes and bits of bytes. There are zeros behind the end.
type reader struct {
	bytes []byte
	last  byte // the byte of which bits are read
	left  int  // bits of it that are still to be read
}

// byte returns the next byte; bits of the one before that have not been read are passed over.
func (r *reader) byte() byte {
	r.last, r.left = 0, 0
	if len(r.bytes) > 0 {
		r.last, r.bytes = r.bytes[0], r.bytes[1:]
	}
	return r.last
}

// bit returns the next bit.
func (r *reader) bit() int {
	if r.left == 0 {
		r.byte()
		r.left = 8
	}
	r.left--
	return int(r.last >> r.left & 1)
}
