package codec

import (
	"strconv"
	"strings"

	"fiducial/api"
	"fiducial/integer"
)

// written returns the canonical bytes of a valid value, and whether they are within the limits; otherwise it stops early.
func written(v api.Value) ([]byte, bool) {
	var buffer []byte
	put := func(head string, body []byte) bool {
		if len(head)+len(body) > maxBytes-len(buffer) {
			return false
		}
		buffer = append(append(buffer, head...), body...)
		return true
	}
	var write func(v api.Value) bool
	write = func(v api.Value) bool {
		switch v.Kind {
		case api.ValueInt:
			numeral := integer.Text(v.Int)
			return len(strings.TrimPrefix(numeral, "-")) <= maxDigits && put("i"+numeral+";", nil)
		case api.ValueText:
			return put("t"+strconv.Itoa(len(v.Text))+":", v.Text)
		}
		if !put("l"+strconv.Itoa(len(v.List))+":", nil) {
			return false
		}
		for _, e := range v.List {
			if !write(e) {
				return false
			}
		}
		return true
	}
	ok := write(v)
	return buffer, ok
}
