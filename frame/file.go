package frame

import (
	"bytes"
	"slices"

	"fiducial/api"
	"fiducial/raster"
)

// head is the beginning of a file.
const head = "FRAME1\n"

// Encode returns the file of f.
func Encode(f api.Frame) ([]byte, api.Code) {
	if code := Check(f); code != api.OK {
		return nil, code
	}
	file := []byte(head)
	for _, e := range f.Meta {
		file = append(file, e.Key+" "+e.Value+"\n"...)
	}
	w := writer{bytes: append(file, '\n')}
	for _, n := range []int{f.Raster.Width, f.Raster.Height, f.Raster.Max} {
		w.number(n)
	}
	for row := range slices.Chunk(residualsOf(f.Raster), f.Raster.Width) {
		w.row(row)
	}
	return w.bytes, api.OK
}

// Decode returns the frame of a file.
func Decode(b []byte) (api.Frame, api.Code) {
	if len(b) > MaxFile {
		return api.Frame{}, api.ErrLong
	}
	f, ok := read(b)
	if !ok {
		return api.Frame{}, api.ErrSyntax
	}
	// The frame has one file only: whatever was passed over or taken for something else in reading shows here.
	file, code := Encode(f)
	if code != api.OK || !bytes.Equal(file, b) {
		return api.Frame{}, api.ErrSyntax
	}
	return f, api.OK
}

// read returns what may be the frame of a file, and whether there is anything of this kind.
func read(file []byte) (api.Frame, bool) {
	rest, ok := bytes.CutPrefix(file, []byte(head))
	if !ok {
		return api.Frame{}, false
	}
	meta, rest, ok := readMeta(rest)
	if !ok {
		return api.Frame{}, false
	}
	r := reader{bytes: rest}
	width, height, most := r.number(), r.number(), r.number()
	if _, code := raster.New(width, height, most); code != api.OK {
		return api.Frame{}, false
	}
	var residuals []int
	for range height {
		residuals = append(residuals, r.row(width)...)
	}
	restored, code := Restore(width, height, most, residuals)
	return api.Frame{Meta: meta, Raster: restored}, code == api.OK
}

// readMeta returns the metadata at the beginning of some bytes, the bytes behind the empty line that ends them, and whether there are such.
func readMeta(b []byte) ([]api.Entry, []byte, bool) {
	var meta []api.Entry
	for {
		line, rest, ok := bytes.Cut(b, []byte("\n"))
		if !ok || len(line) == 0 {
			return meta, rest, ok
		}
		key, value, ok := bytes.Cut(line, []byte(" "))
		if !ok {
			return nil, nil, false
		}
		meta = append(meta, api.Entry{Key: string(key), Value: string(value)})
		b = rest
	}
}

// number writes a number of four bytes, the most significant one first.
func (w *writer) number(n int) {
	for shift := 24; shift >= 0; shift -= 8 {
		w.byte(byte(n >> shift))
	}
}

// number reads a number of four bytes.
func (r *reader) number() int {
	n := 0
	for range 4 {
		n = n<<8 | int(r.byte())
	}
	return n
}

// row writes a row of residuals.
func (w *writer) row(residuals []int) {
	k, _ := best(residuals)
	w.byte(byte(k))
	for _, v := range residuals {
		encode(v, k, w.bit)
	}
}

// row reads a row of so many numbers.
func (r *reader) row(width int) []int {
	k := int(r.byte())
	numbers := make([]int, width)
	for i := range numbers {
		numbers[i] = decode(k, r.bit)
	}
	return numbers
}
