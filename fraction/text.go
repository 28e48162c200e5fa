package fraction

import (
	"strings"

	"fiducial/api"
	"fiducial/integer"
)

const (
	maxText   = 600 // bytes that Parse reads
	maxPlaces = 100 // decimal places of a text
)

// Parse returns the fraction with a text.
func Parse(s string) (api.Rat, api.Code) {
	if len(s) > maxText {
		return api.Rat{}, api.ErrLong
	}
	if num, den, found := strings.Cut(s, "/"); found {
		return parseQuotient(num, den)
	}
	if digits, places, found := strings.Cut(s, "."); found {
		return parseDecimal(digits, places)
	}
	n, code := integer.Parse(s)
	if code != api.OK {
		return api.Rat{}, api.ErrSyntax
	}
	return whole(n), api.OK
}

// parseQuotient returns the fraction with the texts of a numerator and a denominator.
func parseQuotient(num, den string) (api.Rat, api.Code) {
	n, code := integer.Parse(num)
	if code != api.OK {
		return api.Rat{}, api.ErrSyntax
	}
	d, code := integer.Parse(den)
	if code != api.OK || integer.Sign(d) <= 0 {
		return api.Rat{}, api.ErrSyntax
	}
	return reduced(n, d), api.OK
}

// parseDecimal returns the fraction with the texts before and behind a decimal point.
func parseDecimal(digits, places string) (api.Rat, api.Code) {
	digits, isNegative := strings.CutPrefix(digits, "-")
	if !isNumeral(digits) || digits[0] == '0' && len(digits) > 1 || !isNumeral(places) || len(places) > maxPlaces {
		return api.Rat{}, api.ErrSyntax
	}
	numeral := strings.TrimLeft(digits+places, "0")
	if numeral == "" {
		return Whole(0), api.OK
	}
	n, _ := integer.Parse(numeral)
	if isNegative {
		n = integer.Neg(n)
	}
	return reduced(n, power(10, len(places))), api.OK
}

// isNumeral reports whether s consists of digits, and has one.
func isNumeral(s string) bool {
	return s != "" && strings.Trim(s, "0123456789") == ""
}

// Text returns the text of x.
func Text(x api.Rat) string {
	x = counted(x)
	var b strings.Builder
	b.WriteString(integer.Text(x.Num))
	if !isOne(x.Den) {
		b.WriteByte('/')
		b.WriteString(integer.Text(x.Den))
	}
	return b.String()
}

// Decimal returns x rounded to decimal places.
func Decimal(x api.Rat, places int) (string, api.Code) {
	if places < 0 || places > maxPlaces {
		return "", api.ErrRange
	}
	x = counted(x)
	n := nearestTo(integer.Mul(x.Num, power(10, places)), x.Den)
	digits := integer.Text(integer.Abs(n))
	var b strings.Builder
	if n.Negative {
		b.WriteByte('-')
	}
	if missing := places + 1 - len(digits); missing > 0 {
		digits = strings.Repeat("0", missing) + digits
	}
	point := len(digits) - places
	b.WriteString(digits[:point])
	if places > 0 {
		b.WriteByte('.')
		b.WriteString(digits[point:])
	}
	return b.String(), api.OK
}
