package fraction_test

import (
	"math"
	"math/big"
	"math/rand"
	"slices"
	"strings"
	"testing"

	"fiducial/api"
	"fiducial/fraction"
	"fiducial/integer"
)

// P2.1: which fractions are canonical, and what the others count as.
func TestValue(t *testing.T) {
	pairs(func(x, y *big.Rat) {
		a := ofRat(x)
		if !fraction.Valid(a) {
			t.Fatalf("Valid(%s) is false", x)
		}
		equal(t, "Value", fraction.Value(a), x)
	})
	for _, x := range notCanonical() {
		if fraction.Valid(x) {
			t.Errorf("Valid(%v) is true", x)
		}
		equal(t, "Value", fraction.Value(x), new(big.Rat))
	}
}

// P2.1: Of, New and Whole reduce, and the sign is the numerator's.
func TestOf(t *testing.T) {
	for _, c := range []struct {
		n, d int
		want string
	}{{6, -4, "-3/2"}, {-6, -4, "3/2"}, {0, -5, "0"}, {0, 1, "0"}, {7, 1, "7"}, {math.MinInt, math.MinInt, "1"}, {1, math.MinInt, "-1/9223372036854775808"}, {math.MinInt, -1, "9223372036854775808"}, {math.MinInt, math.MaxInt, "-9223372036854775808/9223372036854775807"}} {
		x, code := fraction.Of(c.n, c.d)
		if code != api.OK || !same(x, ofText(t, c.want)) {
			t.Errorf("Of(%d, %d) = %v, %d", c.n, c.d, x, code)
		}
	}
	for _, n := range []int{0, 1, -1, math.MaxInt, math.MinInt} {
		equal(t, "Whole", fraction.Whole(n), new(big.Rat).SetInt64(int64(n)))
		x, code := fraction.Of(n, 0)
		zero(t, "Of", x)
		if code != api.ErrSingular {
			t.Errorf("Of(%d, 0): %d", n, code)
		}
	}
	pairs(func(x, y *big.Rat) {
		if y.Sign() == 0 {
			return
		}
		got, code := fraction.New(ofInt(x.Num()), ofInt(y.Num()))
		equal(t, "New", got, new(big.Rat).SetFrac(x.Num(), y.Num()))
		if code != api.OK {
			t.Fatalf("New: %d", code)
		}
	})
}

// P2.1: integers that are not canonical count as 0.
func TestNewNotCanonical(t *testing.T) {
	for _, n := range []api.Int{{}, {Groups: []uint32{5, 0}}, {Negative: true}, {Groups: []uint32{1_000_000_000}}} {
		for _, d := range []int{1, -1, 7} {
			x, code := fraction.New(n, integer.Of(d))
			equal(t, "New", x, new(big.Rat))
			if code != api.OK {
				t.Errorf("New(%v, %d): %d", n, d, code)
			}
		}
		x, code := fraction.New(integer.Of(1), n)
		zero(t, "New", x)
		if code != api.ErrSingular {
			t.Errorf("New(1, %v): %d", n, code)
		}
	}
}

// P2.2: arithmetic is exact.
func TestArithmetic(t *testing.T) {
	pairs(func(x, y *big.Rat) {
		a, b := ofRat(x), ofRat(y)
		equal(t, "Add", fraction.Add(a, b), new(big.Rat).Add(x, y))
		equal(t, "Sub", fraction.Sub(a, b), new(big.Rat).Sub(x, y))
		equal(t, "Mul", fraction.Mul(a, b), new(big.Rat).Mul(x, y))
		equal(t, "Neg", fraction.Neg(a), new(big.Rat).Neg(x))
		equal(t, "Abs", fraction.Abs(a), new(big.Rat).Abs(x))
		q, code := fraction.Divide(a, b)
		if y.Sign() == 0 {
			zero(t, "Divide", q)
			if code != api.ErrSingular {
				t.Fatalf("Divide(%s, 0): %d", x, code)
			}
			return
		}
		equal(t, "Divide", q, new(big.Rat).Quo(x, y))
		if code != api.OK {
			t.Fatalf("Divide(%s, %s): %d", x, y, code)
		}
	})
}

// P2.2: the order is exact.
func TestOrder(t *testing.T) {
	pairs(func(x, y *big.Rat) {
		a, b := ofRat(x), ofRat(y)
		if fraction.Compare(a, b) != x.Cmp(y) || fraction.Compare(b, a) != y.Cmp(x) || fraction.Compare(a, a) != 0 || fraction.Sign(a) != x.Sign() {
			t.Fatalf("Compare(%s, %s) = %d", x, y, fraction.Compare(a, b))
		}
		// Fractions that differ as little as possible.
		next := new(big.Rat).SetFrac(new(big.Int).Add(x.Num(), big.NewInt(1)), x.Denom())
		if fraction.Compare(a, ofRat(next)) != -1 || fraction.Compare(ofRat(next), a) != 1 {
			t.Fatalf("%s and the next one", x)
		}
	})
}

// Fractions that are not canonical count as 0, in every function and in each place.
func TestNotCanonicalCountsAsZero(t *testing.T) {
	y, none := fraction.Whole(3), new(big.Rat)
	three := big.NewRat(3, 1)
	for _, x := range notCanonical() {
		equal(t, "Neg", fraction.Neg(x), none)
		equal(t, "Abs", fraction.Abs(x), none)
		equal(t, "Add", fraction.Add(x, y), three)
		equal(t, "Add", fraction.Add(y, x), three)
		equal(t, "Sub", fraction.Sub(y, x), three)
		equal(t, "Sub", fraction.Sub(x, y), big.NewRat(-3, 1))
		equal(t, "Mul", fraction.Mul(x, y), none)
		equal(t, "Mul", fraction.Mul(y, x), none)
		q, code := fraction.Divide(x, y)
		equal(t, "Divide", q, none)
		_, singular := fraction.Divide(y, x)
		if code != api.OK || singular != api.ErrSingular || fraction.Sign(x) != 0 || fraction.Compare(x, y) != -1 || fraction.Compare(y, x) != 1 || fraction.Compare(x, x) != 0 {
			t.Errorf("%v does not count as 0", x)
		}
		if !sameInt(fraction.Floor(x), api.Int{}) || !sameInt(fraction.Ceil(x), api.Int{}) || fraction.Text(x) != "0" {
			t.Errorf("%v does not count as 0", x)
		}
		for _, round := range []func(api.Rat, int) (api.Rat, api.Code){fraction.Down, fraction.Up, fraction.Near} {
			z, code := round(x, 5)
			equal(t, "rounding", z, none)
			if code != api.OK {
				t.Errorf("rounding %v: %d", x, code)
			}
		}
		low, high, code := fraction.Root(x, 5)
		equal(t, "Root", low, none)
		equal(t, "Root", high, none)
		s, e := fraction.Simplest(x, y)
		equal(t, "Simplest", s, none)
		_, order := fraction.Simplest(y, x)
		d, f := fraction.Decimal(x, 2)
		if code != api.OK || e != api.OK || f != api.OK || order != api.ErrOrder || d != "0.00" {
			t.Errorf("%v does not count as 0", x)
		}
		equal(t, "Sum", fraction.Sum([]api.Rat{x, y, x}), three)
		equal(t, "Sum", fraction.Sum([]api.Rat{x}), none)
		dot, _ := fraction.Dot([]api.Rat{x, y, y}, []api.Rat{y, x, y})
		equal(t, "Dot", dot, big.NewRat(9, 1))
		for _, l := range [][]api.Rat{{x, y}, {y, x}, {x}} {
			least, _ := fraction.Least(l)
			equal(t, "Least", least, none)
		}
		for _, l := range [][]api.Rat{{x, fraction.Whole(-3)}, {fraction.Whole(-3), x}, {x}} {
			greatest, _ := fraction.Greatest(l)
			equal(t, "Greatest", greatest, none)
		}
	}
}

// P2.3: the laws of an ordered field.
func TestField(t *testing.T) {
	r := rand.New(rand.NewSource(3))
	none, one := fraction.Whole(0), fraction.Whole(1)
	for range 2000 {
		x, y, z := ofRat(random(r)), ofRat(short(r)), ofRat(random(r))
		add, mul := fraction.Add, fraction.Mul
		laws := []bool{
			same(add(x, y), add(y, x)),
			same(mul(x, y), mul(y, x)),
			same(add(add(x, y), z), add(x, add(y, z))),
			same(mul(mul(x, y), z), mul(x, mul(y, z))),
			same(mul(x, add(y, z)), add(mul(x, y), mul(x, z))),
			same(add(x, none), x),
			same(mul(x, one), x),
			same(add(x, fraction.Neg(x)), none),
			same(fraction.Sub(x, y), add(x, fraction.Neg(y))),
			fraction.Compare(x, y) == fraction.Compare(add(x, z), add(y, z)),
			fraction.Compare(x, y) == fraction.Sign(fraction.Sub(x, y)),
			fraction.Sign(mul(x, y)) == fraction.Sign(x)*fraction.Sign(y),
			fraction.Compare(x, y) != 0 || same(x, y),
		}
		if inverse, code := fraction.Divide(one, x); code == api.OK {
			laws = append(laws, same(mul(x, inverse), one))
		}
		if i := slices.Index(laws, false); i >= 0 {
			t.Fatalf("law %d does not hold for %v, %v, %v", i, x, y, z)
		}
	}
}

// P2.4: a text is read as the fraction that it is the text of.
func TestTextAndParse(t *testing.T) {
	pairs(func(x, y *big.Rat) {
		want := x.RatString()
		if got := fraction.Text(ofRat(x)); got != want {
			t.Fatalf("Text = %s, want %s", got, want)
		}
		got, code := fraction.Parse(want)
		equal(t, "Parse", got, x)
		if code != api.OK {
			t.Fatalf("Parse(%s): %d", want, code)
		}
	})
	r := rand.New(rand.NewSource(7))
	for range 1000 {
		// A decimal text is exact, whatever was rounded to get it.
		s := random(r).FloatString(1 + r.Intn(100))
		x, code := fraction.Parse(s)
		equal(t, s, x, bigRat(ofText(t, s)))
		if code != api.OK {
			t.Fatalf("Parse(%q): %d", s, code)
		}
	}
	for _, c := range [][2]string{{"3/6", "1/2"}, {"-3/6", "-1/2"}, {"0/7", "0"}, {"-0.0", "0"}, {"0.0", "0"}, {"-12.50", "-25/2"}, {"0.001", "1/1000"}, {"-0.10", "-1/10"}, {"100.00", "100"}, {"12.34", "617/50"}} {
		x, code := fraction.Parse(c[0])
		equal(t, c[0], x, bigRat(ofText(t, c[1])))
		if code != api.OK {
			t.Errorf("Parse(%q): %d", c[0], code)
		}
	}
}

// P2.4: nothing but the three forms is read: all short strings of some characters are tried.
func TestParseSyntax(t *testing.T) {
	var probe func(s string, n int)
	probe = func(s string, n int) {
		x, code := fraction.Parse(s)
		switch {
		case isForm(s):
			equal(t, s, x, bigRat(ofText(t, s)))
			if code != api.OK {
				t.Errorf("Parse(%q): %d", s, code)
			}
		case code != api.ErrSyntax:
			t.Errorf("Parse(%q): %d", s, code)
		default:
			zero(t, s, x)
		}
		for _, c := range "-+012/. ex" {
			if n > 0 {
				probe(s+string(c), n-1)
			}
		}
	}
	probe("", 5)
	for _, s := range []string{"1/2/3", "1.5/2", "1/2.5", "-1.-5", "1.2.3", "--0.5", "1_0", "0x1", "1e3", "Inf", "é.5", "1.é", "00.1", "-01.5", "1/-2", "1/+2", "1/02", "01/2"} {
		if _, code := fraction.Parse(s); code != api.ErrSyntax {
			t.Errorf("Parse(%q): %d", s, code)
		}
	}
}

// isForm reports whether s has one of the three forms.
func isForm(s string) bool {
	if num, den, found := strings.Cut(s, "/"); found {
		return isInteger(num) && isInteger(den) && den != "0" && den[0] != '-'
	}
	if digits, places, found := strings.Cut(s, "."); found {
		return isDigits(places) && len(places) <= 100 && (isInteger(digits) || digits == "-0")
	}
	return isInteger(s)
}

func isInteger(s string) bool {
	digits := strings.TrimPrefix(s, "-")
	return isDigits(digits) && (digits[0] != '0' || s == "0")
}

func isDigits(s string) bool {
	return s != "" && strings.Trim(s, "0123456789") == ""
}

// P2.4: how long texts may be.
func TestParseLong(t *testing.T) {
	for _, c := range []struct {
		s    string
		code api.Code
	}{
		{strings.Repeat("7", 600), api.OK},
		{strings.Repeat("7", 601), api.ErrLong},
		{"-" + strings.Repeat("7", 599), api.OK},
		{strings.Repeat("7", 300) + "/" + strings.Repeat("9", 299), api.OK},
		{strings.Repeat("7", 300) + "/" + strings.Repeat("9", 300), api.ErrLong},
		{strings.Repeat("7", 499) + "." + strings.Repeat("1", 100), api.OK},
		{strings.Repeat("7", 499) + "." + strings.Repeat("1", 101), api.ErrLong},
		{"0." + strings.Repeat("0", 99) + "1", api.OK},
		{"-0." + strings.Repeat("0", 100), api.OK},
		{"0." + strings.Repeat("0", 101), api.ErrSyntax},
		{strings.Repeat("x", 600), api.ErrSyntax},
		{strings.Repeat("x", 601), api.ErrLong},
	} {
		x, code := fraction.Parse(c.s)
		if code != c.code {
			t.Errorf("Parse of %.9s... (%d bytes): %d, want %d", c.s, len(c.s), code, c.code)
		}
		if code == api.OK {
			equal(t, "Parse", x, bigRat(ofText(t, c.s)))
		} else {
			zero(t, "Parse", x)
		}
	}
}

// floorOf is num/den rounded down; den is above 0.
func floorOf(x *big.Rat) *big.Int {
	// Div of package big rounds down if the divisor is above 0.
	return new(big.Int).Div(x.Num(), x.Denom())
}

// scaled is x times 2^k.
func scaled(x *big.Rat, k int) *big.Rat {
	return new(big.Rat).Mul(x, new(big.Rat).SetInt(new(big.Int).Lsh(big.NewInt(1), uint(k))))
}

// multiple is n times 2^-k.
func multiple(n *big.Int, k int) *big.Rat {
	return new(big.Rat).SetFrac(n, new(big.Int).Lsh(big.NewInt(1), uint(k)))
}

// P2.5: roundings are the multiples of their definitions.
func TestRounding(t *testing.T) {
	pairs(func(x, y *big.Rat) {
		for _, k := range []int{0, 7, 64} {
			checkRounding(t, x, k)
		}
	})
	// Halves, of which the greater neighbour is nearest.
	for n := int64(-9); n <= 9; n++ {
		for k := range 4 {
			checkRounding(t, big.NewRat(n, 1<<(k+1)), k)
			checkRounding(t, big.NewRat(n, 3<<k), k)
		}
	}
	checkRounding(t, big.NewRat(1, 3), api.MaxPlaces)
	checkRounding(t, big.NewRat(-1, 3), api.MaxPlaces)
}

func checkRounding(t *testing.T, x *big.Rat, k int) {
	t.Helper()
	a := ofRat(x)
	down := multiple(floorOf(scaled(x, k)), k)
	up := new(big.Rat).Neg(multiple(floorOf(scaled(new(big.Rat).Neg(x), k)), k))
	near := multiple(floorOf(new(big.Rat).Add(scaled(x, k), big.NewRat(1, 2))), k)
	for _, c := range []struct {
		what  string
		round func(api.Rat, int) (api.Rat, api.Code)
		want  *big.Rat
	}{{"Down", fraction.Down, down}, {"Up", fraction.Up, up}, {"Near", fraction.Near, near}} {
		got, code := c.round(a, k)
		equal(t, c.what, got, c.want)
		again, e := c.round(got, k)
		equal(t, c.what+" again", again, c.want)
		if code != api.OK || e != api.OK {
			t.Fatalf("%s(%s, %d): %d, %d", c.what, x, k, code, e)
		}
	}
	step := new(big.Rat).Sub(up, down)
	if down.Cmp(x) > 0 || up.Cmp(x) < 0 || step.Sign() != 0 && step.Cmp(multiple(big.NewInt(1), k)) != 0 {
		t.Fatalf("roundings of %s to %d places: %s and %s", x, k, down, up)
	}
}

// P2.5: rounding is monotone.
func TestRoundingMonotone(t *testing.T) {
	r := rand.New(rand.NewSource(4))
	for range 3000 {
		x, y := random(r), short(r)
		if r.Intn(2) == 0 {
			x = short(r)
		}
		k := r.Intn(5)
		for i, round := range []func(api.Rat, int) (api.Rat, api.Code){fraction.Down, fraction.Up, fraction.Near} {
			a, _ := round(ofRat(x), k)
			b, _ := round(ofRat(y), k)
			if c := fraction.Compare(a, b); c != 0 && c != x.Cmp(y) {
				t.Fatalf("rounding %d of %s and %s to %d places", i, x, y, k)
			}
		}
	}
}

// P2.5 and P2.6: numbers of places that are out of range.
func TestPlacesOutOfRange(t *testing.T) {
	for _, k := range []int{-1, api.MaxPlaces + 1, math.MinInt, math.MaxInt} {
		for _, x := range []api.Rat{fraction.Whole(2), fraction.Whole(-2), {}} {
			for i, round := range []func(api.Rat, int) (api.Rat, api.Code){fraction.Down, fraction.Up, fraction.Near} {
				z, code := round(x, k)
				zero(t, "rounding", z)
				if code != api.ErrRange {
					t.Errorf("rounding %d to %d places: %d", i, k, code)
				}
			}
			low, high, code := fraction.Root(x, k)
			zero(t, "Root", low)
			zero(t, "Root", high)
			if code != api.ErrRange {
				t.Errorf("root with %d places: %d", k, code)
			}
		}
	}
}

// P2.6: roots, of squares above all.
func TestRoot(t *testing.T) {
	pairs(func(x, y *big.Rat) {
		checkRoot(t, x, 3)
		checkRoot(t, new(big.Rat).Mul(x, x), 8)
		checkRoot(t, multiple(new(big.Int).Mul(x.Num(), x.Num()), 16), 8)
	})
	for n := int64(-2); n <= 40; n++ {
		for k := range 4 {
			checkRoot(t, big.NewRat(n, 1), k)
			checkRoot(t, big.NewRat(n, 16), k)
			checkRoot(t, big.NewRat(n, 7), k)
		}
	}
	checkRoot(t, big.NewRat(2, 1), api.MaxPlaces)
	checkRoot(t, big.NewRat(4, 1), api.MaxPlaces)
}

func checkRoot(t *testing.T, x *big.Rat, k int) {
	t.Helper()
	low, high, code := fraction.Root(ofRat(x), k)
	if x.Sign() < 0 {
		zero(t, "Root", low)
		zero(t, "Root", high)
		if code != api.ErrRange {
			t.Fatalf("Root(%s, %d): %d", x, k, code)
		}
		return
	}
	// The greatest whole number whose square is at most 4^k x, and the least one whose square is at least that.
	square := scaled(x, 2*k)
	n := new(big.Int).Sqrt(floorOf(square))
	want := multiple(n, k)
	equal(t, "low root", low, want)
	if new(big.Rat).Mul(want, want).Cmp(x) != 0 {
		want = multiple(n.Add(n, big.NewInt(1)), k)
	}
	equal(t, "high root", high, want)
	if code != api.OK || new(big.Rat).Mul(want, want).Cmp(x) < 0 {
		t.Fatalf("Root(%s, %d): %d", x, k, code)
	}
}

// P2.7: the simplest fraction, compared with all fractions of small denominators.
func TestSimplest(t *testing.T) {
	var ends []*big.Rat
	for d := int64(1); d <= 7; d++ {
		for n := -2 * d; n <= 3*d; n++ {
			ends = append(ends, big.NewRat(n, d))
		}
	}
	for _, low := range ends {
		for _, high := range ends {
			checkSimplest(t, low, high)
		}
	}
	r := rand.New(rand.NewSource(5))
	for range 3000 {
		low, width := random(r), big.NewRat(int64(r.Intn(1000)), int64(r.Intn(30000)+1))
		checkSimplest(t, low, new(big.Rat).Add(low, width))
	}
	for _, c := range [][3]string{{"3/10", "1/3", "1/3"}, {"31/100", "32/100", "5/16"}, {"-5/2", "-3/2", "-2"}, {"5/2", "11/2", "3"}, {"-7/2", "-3", "-3"}, {"-1", "0", "0"}, {"0", "1/9", "0"}, {"3", "9", "3"}} {
		x, code := fraction.Simplest(ofText(t, c[0]), ofText(t, c[1]))
		if code != api.OK || fraction.Text(x) != c[2] {
			t.Errorf("Simplest(%s, %s) = %s, %d", c[0], c[1], fraction.Text(x), code)
		}
	}
}

func checkSimplest(t *testing.T, low, high *big.Rat) {
	t.Helper()
	x, code := fraction.Simplest(ofRat(low), ofRat(high))
	if low.Cmp(high) > 0 {
		zero(t, "Simplest", x)
		if code != api.ErrOrder {
			t.Fatalf("Simplest(%s, %s): %d", low, high, code)
		}
		return
	}
	if code != api.OK || !fraction.Valid(x) {
		t.Fatalf("Simplest(%s, %s) = %v, %d", low, high, x, code)
	}
	got := bigRat(x)
	if got.Cmp(low) < 0 || got.Cmp(high) > 0 {
		t.Fatalf("Simplest(%s, %s) = %s", low, high, got)
	}
	for d := int64(1); d <= 300 && got.Denom().Cmp(big.NewInt(d)) > 0; d++ {
		n := floorOf(new(big.Rat).Mul(high, big.NewRat(d, 1)))
		if new(big.Rat).SetFrac(n, big.NewInt(d)).Cmp(low) >= 0 {
			t.Fatalf("Simplest(%s, %s) = %s, but %s/%d is simpler", low, high, got, n, d)
		}
	}
	if nearer := new(big.Rat).Sub(got, big.NewRat(int64(got.Sign()), 1)); got.IsInt() && got.Sign() != 0 && nearer.Cmp(low) >= 0 && nearer.Cmp(high) <= 0 {
		t.Fatalf("Simplest(%s, %s) = %s, but %s is nearer to 0", low, high, got, nearer)
	}
}

// P2.7: an interval whose simplest fraction lies deep: between two ratios of neighbours in Fibonacci's sequence no fraction is simpler than the next but one of them.
func TestSimplestDeep(t *testing.T) {
	f := []*big.Int{big.NewInt(1), big.NewInt(1)}
	for len(f) < 2000 {
		f = append(f, new(big.Int).Add(f[len(f)-1], f[len(f)-2]))
	}
	n := len(f) - 1
	low, high := new(big.Rat).SetFrac(f[n], f[n-1]), new(big.Rat).SetFrac(f[n-1], f[n-2])
	if low.Cmp(high) > 0 {
		low, high = high, low
	}
	x, code := fraction.Simplest(ofRat(low), ofRat(high))
	equal(t, "Simplest", x, new(big.Rat).SetFrac(f[n-1], f[n-2]))
	if code != api.OK {
		t.Errorf("Simplest: %d", code)
	}
}

// P2.8: sums, products of lists, least and greatest elements.
func TestLists(t *testing.T) {
	r := rand.New(rand.NewSource(6))
	for n := range 40 {
		a, b := make([]api.Rat, n), make([]api.Rat, n)
		sum, dot := new(big.Rat), new(big.Rat)
		least, greatest := new(big.Rat), new(big.Rat)
		for i := range n {
			x, y := random(r), short(r)
			if n%2 == 0 {
				x = short(r)
			}
			a[i], b[i] = ofRat(x), ofRat(y)
			sum.Add(sum, x)
			dot.Add(dot, new(big.Rat).Mul(x, y))
			if i == 0 || x.Cmp(least) < 0 {
				least.Set(x)
			}
			if i == 0 || x.Cmp(greatest) > 0 {
				greatest.Set(x)
			}
		}
		equal(t, "Sum", fraction.Sum(a), sum)
		got, code := fraction.Dot(a, b)
		equal(t, "Dot", got, dot)
		if code != api.OK {
			t.Errorf("Dot: %d", code)
		}
		low, e := fraction.Least(a)
		high, f := fraction.Greatest(a)
		if n == 0 {
			zero(t, "Least", low)
			zero(t, "Greatest", high)
			if e != api.ErrMissing || f != api.ErrMissing {
				t.Errorf("Least and Greatest of nothing: %d, %d", e, f)
			}
			continue
		}
		equal(t, "Least", low, least)
		equal(t, "Greatest", high, greatest)
		if e != api.OK || f != api.OK {
			t.Errorf("Least and Greatest: %d, %d", e, f)
		}
	}
}

// P2.8: lists that do not fit.
func TestDotMismatch(t *testing.T) {
	one := fraction.Whole(1)
	for _, l := range [][2][]api.Rat{{{one}, nil}, {nil, {one}}, {{one, one}, {one}}, {{{}}, {{}, {}}}} {
		x, code := fraction.Dot(l[0], l[1])
		zero(t, "Dot", x)
		if code != api.ErrMismatch {
			t.Errorf("Dot of %d and %d: %d", len(l[0]), len(l[1]), code)
		}
	}
}

// P2.8: integers below and above.
func TestFloorAndCeil(t *testing.T) {
	pairs(func(x, y *big.Rat) {
		floor := floorOf(x)
		ceil := floorOf(new(big.Rat).Neg(x))
		if got := fraction.Floor(ofRat(x)); !sameInt(got, ofInt(floor)) {
			t.Fatalf("Floor(%s) = %v", x, got)
		}
		if got := fraction.Ceil(ofRat(x)); !sameInt(got, ofInt(ceil.Neg(ceil))) {
			t.Fatalf("Ceil(%s) = %v", x, got)
		}
	})
}

// P2.8: decimal texts.
func TestDecimal(t *testing.T) {
	pairs(func(x, y *big.Rat) {
		for _, places := range []int{0, 1, 2, 30} {
			checkDecimal(t, x, places)
		}
	})
	for n := int64(-250); n <= 250; n++ {
		for places := range 4 {
			checkDecimal(t, big.NewRat(n, 200), places)
			checkDecimal(t, big.NewRat(n, 3), places)
		}
	}
	checkDecimal(t, big.NewRat(-1, 3), 100)
	for _, c := range []struct {
		x      string
		places int
		want   string
	}{{"-3/2", 0, "-1"}, {"-3/2", 2, "-1.50"}, {"-1/2", 0, "0"}, {"1/2", 0, "1"}, {"-1/200", 2, "0.00"}, {"-1/1000", 2, "0.00"}, {"-2/300", 2, "-0.01"}, {"999/1000", 2, "1.00"}, {"0", 3, "0.000"}, {"12345", 1, "12345.0"}} {
		if s, code := fraction.Decimal(ofText(t, c.x), c.places); s != c.want || code != api.OK {
			t.Errorf("Decimal(%s, %d) = %q, %d", c.x, c.places, s, code)
		}
	}
	for _, places := range []int{-1, 101, math.MinInt, math.MaxInt} {
		if s, code := fraction.Decimal(fraction.Whole(1), places); s != "" || code != api.ErrRange {
			t.Errorf("Decimal with %d places: %q, %d", places, s, code)
		}
	}
}

func checkDecimal(t *testing.T, x *big.Rat, places int) {
	t.Helper()
	unit := new(big.Int).Exp(big.NewInt(10), big.NewInt(int64(places)), nil)
	n := floorOf(new(big.Rat).Add(new(big.Rat).Mul(x, new(big.Rat).SetInt(unit)), big.NewRat(1, 2)))
	// The number is exact in decimals, so that FloatString does not round.
	want := new(big.Rat).SetFrac(n, unit).FloatString(places)
	if got, code := fraction.Decimal(ofRat(x), places); got != want || code != api.OK {
		t.Fatalf("Decimal(%s, %d) = %q, %d, want %q", x, places, got, code, want)
	}
}

// The arguments stay as they are, and results are new memory.
func TestNothingIsShared(t *testing.T) {
	numbers := []api.Rat{fraction.Whole(0), fraction.Whole(1), fraction.Whole(4), ofText(t, "-7/3"), ofText(t, "1/4"), ofText(t, strings.Repeat("8", 50)), ofText(t, strings.Repeat("7", 50)+"/"+strings.Repeat("9", 60)), ofText(t, "-1/"+strings.Repeat("9", 60))}
	for _, x := range numbers {
		for _, y := range numbers {
			a, b := ofRat(bigRat(x)), ofRat(bigRat(y))
			for i, z := range results(x, y) {
				den := slices.Clone(z.Den.Groups)
				overwrite(z.Num.Groups)
				if !slices.Equal(z.Den.Groups, den) {
					t.Fatalf("result %d of %v and %v shares memory with itself", i, x, y)
				}
				overwrite(z.Den.Groups)
				if !same(x, a) || !same(y, b) {
					t.Fatalf("result %d of %v and %v shares memory with an argument", i, x, y)
				}
			}
		}
		low, high, code := fraction.Root(x, 3)
		if code != api.OK {
			continue
		}
		before := ofRat(bigRat(high))
		overwrite(low.Num.Groups)
		overwrite(low.Den.Groups)
		if !same(high, before) {
			t.Fatalf("the roots of %v share memory", x)
		}
	}
}

// overwrite changes all that a slice shows of its memory, and what an append would write behind it.
func overwrite(groups []uint32) {
	for k := range groups {
		groups[k] = 123
	}
	_ = append(groups, 123)
}
