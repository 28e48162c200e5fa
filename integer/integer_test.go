package integer_test

import (
	"cmp"
	"math"
	"math/big"
	"math/rand"
	"slices"
	"strings"
	"testing"

	"fiducial/api"
	"fiducial/integer"
)

// P1.1: which integers are canonical.
func TestValid(t *testing.T) {
	for _, x := range []api.Int{
		{}, {Groups: []uint32{}}, {Groups: []uint32{1}}, {Negative: true, Groups: []uint32{1}},
		{Groups: []uint32{999_999_999}}, {Groups: []uint32{0, 1}}, {Negative: true, Groups: []uint32{0, 0, 999_999_999}},
	} {
		if !integer.Valid(x) {
			t.Errorf("Valid(%v) is false", x)
		}
	}
	for _, x := range notCanonical() {
		if integer.Valid(x) {
			t.Errorf("Valid(%v) is true", x)
		}
	}
}

// P1.1: what is not canonical counts as 0, in every function and in each place.
func TestNotCanonicalCountsAsZero(t *testing.T) {
	six, none := integer.Of(6), big.NewInt(0)
	for _, x := range notCanonical() {
		equal(t, "Neg", integer.Neg(x), none)
		equal(t, "Abs", integer.Abs(x), none)
		equal(t, "Add", integer.Add(x, six), big.NewInt(6))
		equal(t, "Add", integer.Add(six, x), big.NewInt(6))
		equal(t, "Sub", integer.Sub(x, six), big.NewInt(-6))
		equal(t, "Sub", integer.Sub(six, x), big.NewInt(6))
		equal(t, "Mul", integer.Mul(x, six), none)
		equal(t, "Mul", integer.Mul(six, x), none)
		equal(t, "Gcd", integer.Gcd(x, six), big.NewInt(6))
		equal(t, "Gcd", integer.Gcd(six, x), big.NewInt(6))
		equal(t, "Gcd", integer.Gcd(x, x), none)
		q, r, code := integer.Divide(x, six)
		equal(t, "quotient", q, none)
		equal(t, "rest", r, none)
		if _, _, singular := integer.Divide(six, x); code != api.OK || singular != api.ErrSingular {
			t.Errorf("Divide with %v: %d, %d", x, code, singular)
		}
		one, code := integer.Power(x, 0)
		equal(t, "Power", one, big.NewInt(1))
		p, cube := integer.Power(x, 3)
		equal(t, "Power", p, none)
		root, rooted := integer.Root(x)
		equal(t, "Root", root, none)
		if code != api.OK || cube != api.OK || rooted != api.OK {
			t.Errorf("codes for %v: %d, %d, %d", x, code, cube, rooted)
		}
		n, ok := integer.Small(x)
		if n != 0 || !ok || integer.Text(x) != "0" || integer.Sign(x) != 0 || integer.Log(x) != -1 {
			t.Errorf("%v does not count as 0", x)
		}
		if integer.Compare(x, api.Int{}) != 0 || integer.Compare(x, six) != -1 || integer.Compare(six, x) != 1 || integer.Compare(x, integer.Of(-6)) != 1 {
			t.Errorf("order of %v", x)
		}
	}
}

// P1.2: Of and Small are inverse to each other.
func TestOfAndSmall(t *testing.T) {
	numbers := []int{0, 1, -1, 7, 999_999_999, 1_000_000_000, -1_000_000_000, 999_999_999_999_999_999, 1_000_000_000_000_000_000, -1_000_000_000_000_000_000, math.MaxInt, math.MinInt, math.MinInt + 1}
	r := rand.New(rand.NewSource(2))
	for range 2000 {
		numbers = append(numbers, int(r.Uint64())>>r.Intn(64))
	}
	for _, n := range numbers {
		x := integer.Of(n)
		equal(t, "Of", x, big.NewInt(int64(n)))
		if m, ok := integer.Small(x); m != n || !ok {
			t.Fatalf("Small(Of(%d)) = %d, %t", n, m, ok)
		}
	}
}

// P1.2: Small refuses what does not fit.
func TestSmallTooGreat(t *testing.T) {
	for _, s := range []string{"9223372036854775808", "-9223372036854775809", "9999999999999999999", "-9999999999999999999", "18446744073709551615", "18446744073709551616", "18446744073709551617", "-18446744073709551616", "36893488147419103233", "999999999999999999999999999", "1000000000000000000000000000", "-1000000000000000000000000000000000001"} {
		if n, ok := integer.Small(ofText(t, s)); n != 0 || ok {
			t.Errorf("Small(%s) = %d, %t", s, n, ok)
		}
	}
}

// P1.3: sums, differences and products are exact.
func TestArithmetic(t *testing.T) {
	pairs(t, func(x, y api.Int) {
		a, b := bigOf(x), bigOf(y)
		equal(t, "Add", integer.Add(x, y), new(big.Int).Add(a, b))
		equal(t, "Sub", integer.Sub(x, y), new(big.Int).Sub(a, b))
		equal(t, "Mul", integer.Mul(x, y), new(big.Int).Mul(a, b))
		equal(t, "Neg", integer.Neg(x), new(big.Int).Neg(a))
		equal(t, "Abs", integer.Abs(x), new(big.Int).Abs(a))
		if integer.Sign(x) != a.Sign() {
			t.Fatalf("Sign(%s) = %d", a, integer.Sign(x))
		}
	})
}

// P1.3: differences in which everything cancels.
func TestCancellation(t *testing.T) {
	pairs(t, func(x, y api.Int) {
		equal(t, "x - x", integer.Sub(x, x), new(big.Int))
		equal(t, "x + y - y", integer.Sub(integer.Add(x, y), y), bigOf(x))
	})
}

// P1.4: quotients are rounded towards minus infinity, and the rest has the sign of the divisor.
func TestDivide(t *testing.T) {
	for _, c := range [][4]int{{-7, 2, -4, 1}, {7, -2, -4, -1}, {7, 2, 3, 1}, {-7, -2, 3, -1}, {-6, 2, -3, 0}, {6, -2, -3, 0}, {1, -5, -1, -4}, {-1, 5, -1, 4}, {0, -5, 0, 0}, {math.MinInt, 1, math.MinInt, 0}} {
		q, r, code := integer.Divide(integer.Of(c[0]), integer.Of(c[1]))
		equal(t, "quotient", q, big.NewInt(int64(c[2])))
		equal(t, "rest", r, big.NewInt(int64(c[3])))
		if code != api.OK {
			t.Errorf("Divide(%d, %d): %d", c[0], c[1], code)
		}
	}
	pairs(t, func(x, y api.Int) {
		checkDivide(t, x, y)
		checkDivide(t, integer.Mul(x, y), y)
		checkDivide(t, integer.Sub(integer.Mul(x, y), integer.Of(1)), y)
	})
}

func checkDivide(t *testing.T, x, y api.Int) {
	t.Helper()
	q, r, code := integer.Divide(x, y)
	if len(y.Groups) == 0 {
		zero(t, "quotient", q)
		zero(t, "rest", r)
		if code != api.ErrSingular {
			t.Fatalf("Divide(%v, 0): %d", x, code)
		}
		return
	}
	quotient, rest := new(big.Int).QuoRem(bigOf(x), bigOf(y), new(big.Int))
	if rest.Sign()*bigOf(y).Sign() < 0 {
		quotient.Sub(quotient, big.NewInt(1))
		rest.Add(rest, bigOf(y))
	}
	if code != api.OK {
		t.Fatalf("Divide(%v, %v): %d", x, y, code)
	}
	equal(t, "quotient", q, quotient)
	equal(t, "rest", r, rest)
}

// P1.5: the greatest common divisor, also of numbers without one, and of neighbours in Fibonacci's sequence, for which Euclid's algorithm takes longest.
func TestGcd(t *testing.T) {
	for _, c := range [][3]int{{-12, 18, 6}, {0, 0, 0}, {0, -5, 5}, {-5, 0, 5}, {1, 0, 1}, {7, 7, 7}, {-8, -12, 4}, {math.MinInt, -1 << 40, 1 << 40}} {
		equal(t, "Gcd", integer.Gcd(integer.Of(c[0]), integer.Of(c[1])), big.NewInt(int64(c[2])))
	}
	pairs(t, func(x, y api.Int) {
		checkGcd(t, x, y)
		checkGcd(t, integer.Mul(x, y), integer.Mul(y, y))
		checkGcd(t, integer.Mul(x, y), y)
		checkGcd(t, integer.Add(integer.Mul(x, y), integer.Of(1)), y)
	})
	a, b := integer.Of(0), integer.Of(1)
	for range 1500 {
		a, b = b, integer.Add(a, b)
		equal(t, "Gcd of neighbours", integer.Gcd(a, b), big.NewInt(1))
	}
}

func checkGcd(t *testing.T, x, y api.Int) {
	t.Helper()
	a, b := bigOf(x), bigOf(y)
	equal(t, "Gcd", integer.Gcd(x, y), new(big.Int).GCD(nil, nil, a.Abs(a), b.Abs(b)))
}

// P1.6: Compare is the order of the integers.
func TestCompare(t *testing.T) {
	pairs(t, func(x, y api.Int) {
		a, b := bigOf(x), bigOf(y)
		if integer.Compare(x, y) != a.Cmp(b) || integer.Compare(x, x) != 0 {
			t.Fatalf("Compare(%s, %s) = %d", a, b, integer.Compare(x, y))
		}
		next := integer.Add(x, integer.Of(1))
		if integer.Compare(x, next) != -1 || integer.Compare(next, x) != 1 {
			t.Fatalf("%s and the next number", a)
		}
	})
	for a := -30; a <= 30; a++ {
		for b := -30; b <= 30; b++ {
			if integer.Compare(integer.Of(a), integer.Of(b)) != cmp.Compare(a, b) {
				t.Fatalf("Compare(%d, %d)", a, b)
			}
		}
	}
}

// P1.7: a text is read as the number that it is the text of.
func TestTextAndParse(t *testing.T) {
	pairs(t, func(x, y api.Int) {
		s := bigOf(x).String()
		if got := integer.Text(x); got != s {
			t.Fatalf("Text = %s, want %s", got, s)
		}
		got, code := integer.Parse(s)
		if len(strings.TrimPrefix(s, "-")) > 2000 {
			zero(t, "Parse", got)
			if code != api.ErrLong {
				t.Fatalf("Parse of %d bytes: %d", len(s), code)
			}
			return
		}
		equal(t, "Parse", got, bigOf(x))
		if code != api.OK {
			t.Fatalf("Parse(%s): %d", s, code)
		}
	})
}

// P1.7: nothing but decimal texts is read: all short strings of some characters are tried.
func TestParseSyntax(t *testing.T) {
	var probe func(s string, n int)
	probe = func(s string, n int) {
		digits := strings.TrimPrefix(s, "-")
		good := digits != "" && strings.Trim(digits, "0123456789") == "" && (digits[0] != '0' || s == "0")
		x, code := integer.Parse(s)
		switch {
		case good:
			equal(t, s, x, bigText(t, s))
		case code != api.ErrSyntax:
			t.Errorf("Parse(%q): %d", s, code)
		default:
			zero(t, s, x)
		}
		if good && code != api.OK {
			t.Errorf("Parse(%q): %d", s, code)
		}
		for _, c := range "-+0129:/. ax\x00é" {
			if n > 0 {
				probe(s+string(c), n-1)
			}
		}
	}
	probe("", 4)
}

// P1.7: which errors too long strings have.
func TestParseLong(t *testing.T) {
	nines := strings.Repeat("9", 2000)
	for _, c := range []struct {
		s    string
		code api.Code
	}{
		{nines, api.OK},
		{"-" + nines, api.OK},
		{nines + "9", api.ErrLong},
		{"0" + nines, api.ErrSyntax},
		{"-0" + nines[1:], api.ErrSyntax},
		{"+" + nines, api.ErrSyntax},
		{nines + "x", api.ErrSyntax},
		{"-" + nines + "9", api.ErrLong},
		{strings.Repeat("x", 2001), api.ErrSyntax},
		{strings.Repeat("x", 2002), api.ErrLong},
		{strings.Repeat("0", 100000), api.ErrLong},
	} {
		x, code := integer.Parse(c.s)
		if code != c.code {
			t.Errorf("Parse of %.9s... (%d bytes): %d, want %d", c.s, len(c.s), code, c.code)
		}
		if code == api.OK {
			equal(t, "Parse", x, bigText(t, c.s))
		} else {
			zero(t, "Parse", x)
		}
	}
}

// P1.7: Text has no bound.
func TestTextLong(t *testing.T) {
	x, code := integer.Power(integer.Of(-10), 4095)
	if code != api.OK || integer.Text(x) != "-1"+strings.Repeat("0", 4095) {
		t.Errorf("text of 10^4095: %d", code)
	}
}

// P1.8: powers, and which of them are too long.
func TestPower(t *testing.T) {
	for _, c := range []struct {
		x    string
		n    int
		code api.Code
	}{
		{"-3", 3, api.OK}, {"-3", 4, api.OK}, {"0", 0, api.OK}, {"0", 1, api.OK}, {"0", 4096, api.OK}, {"1", 4096, api.OK},
		{"-1", 4095, api.OK}, {"-1", 4096, api.OK}, {"2", 64, api.OK}, {"2", 4096, api.OK}, {"9", 4096, api.OK},
		{"99999", 4000, api.OK}, {"99999", 4001, api.ErrLong}, {"-99999", 4096, api.ErrLong}, {"9999", 4096, api.OK},
		{"1000000000", 2000, api.OK}, {"1000000000", 2001, api.ErrLong}, {"999999999", 2222, api.OK}, {"999999999", 2223, api.ErrLong},
		{strings.Repeat("7", 20000), 1, api.OK}, {strings.Repeat("7", 20001), 1, api.ErrLong}, {strings.Repeat("7", 20001), 0, api.OK},
		{strings.Repeat("7", 10000), 2, api.OK}, {strings.Repeat("7", 10001), 2, api.ErrLong},
		{"2", -1, api.ErrRange}, {"2", 4097, api.ErrRange}, {"0", -1, api.ErrRange}, {"2", math.MinInt, api.ErrRange}, {"2", math.MaxInt, api.ErrRange},
		{strings.Repeat("7", 20001), 4097, api.ErrRange}, {strings.Repeat("7", 20001), -1, api.ErrRange},
	} {
		x := bigText(t, c.x)
		p, code := integer.Power(ofBig(x), c.n)
		if code != c.code {
			t.Errorf("Power(%.9s, %d): %d, want %d", c.x, c.n, code, c.code)
		}
		if code == api.OK {
			equal(t, "Power", p, new(big.Int).Exp(x, big.NewInt(int64(c.n)), nil))
		} else {
			zero(t, "Power", p)
		}
	}
}

// P1.8: roots, next to squares above all.
func TestRoot(t *testing.T) {
	pairs(t, func(x, y api.Int) {
		square := integer.Mul(x, x)
		for _, d := range []int{-1, 0, 1} {
			checkRoot(t, integer.Add(square, integer.Of(d)))
		}
		checkRoot(t, x)
	})
	for n := range 5000 {
		checkRoot(t, integer.Of(n-1))
	}
}

func checkRoot(t *testing.T, x api.Int) {
	t.Helper()
	root, code := integer.Root(x)
	if x.Negative {
		zero(t, "Root", root)
		if code != api.ErrRange {
			t.Fatalf("Root(%v): %d", x, code)
		}
		return
	}
	if code != api.OK {
		t.Fatalf("Root(%v): %d", x, code)
	}
	equal(t, "Root", root, new(big.Int).Sqrt(bigOf(x)))
}

// P1.8: logarithms, next to powers of 2 above all.
func TestLog(t *testing.T) {
	pairs(t, func(x, y api.Int) {
		checkLog(t, x)
	})
	one := big.NewInt(1)
	for k := range 1000 {
		p := new(big.Int).Lsh(one, uint(k))
		for _, z := range []*big.Int{p, new(big.Int).Neg(p), new(big.Int).Sub(p, one), new(big.Int).Add(p, one)} {
			checkLog(t, ofBig(z))
		}
	}
}

func checkLog(t *testing.T, x api.Int) {
	t.Helper()
	if got, want := integer.Log(x), bigOf(x).BitLen()-1; got != want {
		t.Fatalf("Log(%v) = %d, want %d", x, got, want)
	}
}

// The arguments stay as they are, and results are new memory.
func TestNothingIsShared(t *testing.T) {
	numbers := []api.Int{integer.Of(0), integer.Of(1), integer.Of(-7), integer.Of(1_000_000_007), ofText(t, strings.Repeat("8", 50)), ofText(t, "-"+strings.Repeat("123", 300))}
	for _, x := range numbers {
		for _, y := range numbers {
			a, b := slices.Clone(x.Groups), slices.Clone(y.Groups)
			for i, z := range results(x, y) {
				for k := range z.Groups {
					z.Groups[k] = 123
				}
				_ = append(z.Groups, 123)
				if !slices.Equal(x.Groups, a) || !slices.Equal(y.Groups, b) {
					t.Fatalf("result %d of %v and %v shares memory with an argument", i, x, y)
				}
			}
			q, r, _ := integer.Divide(x, y)
			rest := slices.Clone(r.Groups)
			for k := range q.Groups {
				q.Groups[k] = 123
			}
			_ = append(q.Groups, 123)
			if !slices.Equal(r.Groups, rest) {
				t.Fatalf("quotient and rest of %v by %v share memory", x, y)
			}
		}
	}
}
