package codec

import (
	"bytes"

	"fiducial/api"
	"fiducial/integer"
)

// decoder reads canonical bytes from an offset on. Its methods report whether they found what they read.
type decoder struct {
	bytes  []byte
	offset int
}

// value reads a value whose lists are nested at most so deep.
func (d *decoder) value(depth int) (api.Value, bool) {
	if d.offset == len(d.bytes) {
		return api.Value{}, false
	}
	kind := d.bytes[d.offset]
	d.offset++
	switch kind {
	case 'i':
		x, ok := d.integer(';')
		return ofInt(x), ok
	case 't':
		return d.text()
	case 'l':
		return d.list(depth)
	}
	return api.Value{}, false
}

// text reads a text behind its first byte.
func (d *decoder) text() (api.Value, bool) {
	n, ok := d.count()
	if !ok || n > len(d.bytes)-d.offset {
		return api.Value{}, false
	}
	text := make([]byte, n)
	copy(text, d.bytes[d.offset:])
	d.offset += n
	return api.Value{Kind: api.ValueText, Text: text}, true
}

// list reads a list behind its first byte.
func (d *decoder) list(depth int) (api.Value, bool) {
	n, ok := d.count()
	if !ok || depth == 0 {
		return api.Value{}, false
	}
	v := api.Value{Kind: api.ValueList}
	for range n {
		e, ok := d.value(depth - 1)
		if !ok {
			return api.Value{}, false
		}
		v.List = append(v.List, e)
	}
	return v, true
}

// count reads a number that is not below 0, and the colon behind it.
func (d *decoder) count() (int, bool) {
	x, ok := d.integer(':')
	n, isSmall := integer.Small(x)
	return n, ok && isSmall && n >= 0
}

// integer reads the decimal text of an integer, and the byte behind it.
func (d *decoder) integer(end byte) (api.Int, bool) {
	n := bytes.IndexByte(d.bytes[d.offset:], end)
	if n < 0 {
		return api.Int{}, false
	}
	x, code := integer.Parse(string(d.bytes[d.offset : d.offset+n]))
	d.offset += n + 1
	return x, code == api.OK
}
