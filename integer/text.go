package integer

import (
	"strconv"

	"fiducial/api"
)

const (
	places    = 9    // digits of a group
	maxDigits = 2000 // digits that Parse reads
)

// Parse returns the integer with a decimal text.
func Parse(s string) (api.Int, api.Code) {
	if len(s) > maxDigits+1 {
		return api.Int{}, api.ErrLong
	}
	negative := len(s) > 0 && s[0] == '-'
	numeral := s
	if negative {
		numeral = s[1:]
	}
	if !isNumeral(numeral) || negative && numeral == "0" {
		return api.Int{}, api.ErrSyntax
	}
	if len(numeral) > maxDigits {
		return api.Int{}, api.ErrLong
	}
	return signed(negative, read(numeral)), api.OK
}

// isNumeral reports whether s consists of digits without leading zeros.
func isNumeral(s string) bool {
	if s == "" || s[0] == '0' && len(s) > 1 {
		return false
	}
	for i := range len(s) {
		if s[i] < '0' || s[i] > '9' {
			return false
		}
	}
	return true
}

// read returns the magnitude with some digits.
func read(numeral string) []uint32 {
	groups := make([]uint32, 0, len(numeral)/places+1)
	for end := len(numeral); end > 0; end -= places {
		var g uint32
		for i := max(0, end-places); i < end; i++ {
			g = 10*g + uint32(numeral[i]-'0')
		}
		groups = append(groups, g)
	}
	return groups
}

// Text returns the decimal text of x.
func Text(x api.Int) string {
	x = counted(x)
	if len(x.Groups) == 0 {
		return "0"
	}
	buffer := make([]byte, 0, places*len(x.Groups)+1)
	if x.Negative {
		buffer = append(buffer, '-')
	}
	for i, g := range backwards(x.Groups) {
		if i == len(x.Groups)-1 {
			buffer = strconv.AppendUint(buffer, uint64(g), 10)
		} else {
			buffer = appendGroup(buffer, g)
		}
	}
	return string(buffer)
}

// appendGroup appends the digits of a group, with its leading zeros.
func appendGroup(buffer []byte, g uint32) []byte {
	for unit := uint32(base / 10); unit > 0; unit /= 10 {
		buffer = append(buffer, byte('0'+g/unit%10))
	}
	return buffer
}

// digits returns the number of decimal digits of a magnitude; 0 has none.
func digits(groups []uint32) int {
	n := len(groups)
	if n == 0 {
		return 0
	}
	return places*(n-1) + len(strconv.Itoa(int(groups[n-1])))
}
