package codec_test

import (
	"fmt"
	"hash/fnv"
	"math"
	"math/big"
	"math/rand"
	"slices"
	"strings"
	"testing"

	"fiducial/api"
	"fiducial/codec"
	"fiducial/fraction"
)

// P12.5: lists of ints, and back.
func TestInts(t *testing.T) {
	check := func(l []int) {
		before := slices.Clone(l)
		v := codec.OfInts(l)
		var numbers []api.Value
		for _, n := range l {
			numbers = append(numbers, number(fmt.Sprint(n)))
		}
		if !codec.Equal(v, list(numbers...)) || !slices.Equal(l, before) {
			t.Fatalf("OfInts(%d) = %v", l, v)
		}
		got, code := codec.ToInts(v)
		if code != api.OK || !slices.Equal(got, l) || !codec.Equal(v, list(numbers...)) {
			t.Fatalf("ToInts(%v) = %d, %d", v, got, code)
		}
	}
	check(nil)
	check([]int{})
	check([]int{0, 1, -1, 999999999, 1000000000, math.MaxInt, math.MinInt, math.MinInt + 1})
	check(make([]int, 30000))
	some(1000, func(r *rand.Rand) {
		l := make([]int, r.Intn(6))
		for i := range l {
			l[i] = int(r.Uint64()) >> r.Intn(64)
		}
		check(l)
	})
	for _, l := range [][]int{{1, 2}, {3}} {
		v := codec.OfInts(l)
		got, _ := codec.ToInts(v)
		spoil(v)
		again := codec.OfInts(l)
		if !slices.Equal(got, l) || canonical(again) != canonical(codec.OfInts(got)) {
			t.Errorf("%d has become %d", l, got)
		}
	}
}

// P12.5: what is no list of integers, and integers that are no ints.
func TestToIntsRefuses(t *testing.T) {
	long := strings.Repeat("9", 2001)
	for _, c := range []struct {
		v    api.Value
		want api.Code
	}{
		{number("5"), api.ErrArgument},
		{api.Value{}, api.ErrArgument},
		{text("5"), api.ErrArgument},
		{text(""), api.ErrArgument},
		{api.Value{Kind: 3}, api.ErrArgument},
		{api.Value{Kind: 3, List: []api.Value{{}}}, api.ErrArgument},
		{list(text("5")), api.ErrArgument},
		{list(number("1"), list(number("2"))), api.ErrArgument},
		{list(list()), api.ErrArgument},
		{list(api.Value{Kind: -1}), api.ErrArgument},
		{list(number("1"), api.Value{Text: []byte("a")}), api.ErrArgument},
		{list(api.Value{List: []api.Value{{}}}), api.ErrArgument},
		{list(api.Value{Int: api.Int{Negative: true}}), api.ErrArgument},
		{list(api.Value{Int: api.Int{Groups: []uint32{1, 0}}}), api.ErrArgument},
		{api.Value{Kind: api.ValueList, Text: []byte("a"), List: []api.Value{number("1")}}, api.ErrArgument},
		{api.Value{Kind: api.ValueList, Int: number("1").Int}, api.ErrArgument},
		{list(number(long), text("a")), api.ErrArgument},
		{list(number("9223372036854775808"), api.Value{Int: api.Int{Groups: []uint32{0}}}), api.ErrArgument},
		{list(number("9223372036854775808")), api.ErrRange},
		{list(number("1"), number("-9223372036854775809")), api.ErrRange},
		{list(number("18446744073709551616")), api.ErrRange},
		{list(number(long)), api.ErrRange},
		{list(number("9223372036854775807"), number("-9223372036854775808")), api.OK},
		{list(slices.Repeat([]api.Value{number("-77")}, 50000)...), api.OK},
	} {
		l, code := codec.ToInts(c.v)
		if code != c.want || code != api.OK && len(l) > 0 || code == api.OK && len(l) != len(c.v.List) {
			t.Errorf("ToInts(%.99s) = %d elements, %d, want %d", fmt.Sprint(c.v), len(l), code, c.want)
		}
	}
}

// P12.5: fractions, and back; those that are not canonical count as 0.
func TestRats(t *testing.T) {
	check := func(num, den *big.Int) {
		x := new(big.Rat).SetFrac(num, den)
		f := api.Rat{Num: ofBig(x.Num()), Den: ofBig(x.Denom())}
		v := codec.OfRat(f)
		if want := list(api.Value{Int: f.Num}, api.Value{Int: f.Den}); !codec.Equal(v, want) {
			t.Fatalf("OfRat(%s) = %v", x, v)
		}
		got, code := codec.ToRat(v)
		if code != api.OK || fraction.Compare(got, f) != 0 || !fraction.Valid(got) {
			t.Fatalf("ToRat(%v) = %s, %d", v, fraction.Text(got), code)
		}
		text := fraction.Text(f)
		spoil(v)
		if fraction.Text(f) != text || fraction.Text(got) != text {
			t.Fatalf("%s has become %s and %s", text, fraction.Text(f), fraction.Text(got))
		}
	}
	check(big.NewInt(0), big.NewInt(1))
	check(big.NewInt(-1), big.NewInt(2))
	some(1000, func(r *rand.Rand) {
		limit := new(big.Int).Exp(big.NewInt(10), big.NewInt(int64(1+r.Intn(60))), nil)
		num, den := new(big.Int).Rand(r, limit), new(big.Int).Rand(r, limit)
		if r.Intn(2) == 0 {
			num.Neg(num)
		}
		check(num, den.Add(den, big.NewInt(1)))
	})
	huge := new(big.Int).Exp(big.NewInt(7), big.NewInt(3000), nil)
	check(huge, big.NewInt(10))
	check(big.NewInt(10), huge)
	half, _ := fraction.Of(-1, 2)
	must(t, codec.OfRat(half), "l2:i-1;i2;")
	one := number("1").Int
	for _, x := range []api.Rat{{}, {Num: one}, {Num: number("2").Int, Den: number("4").Int}, {Num: one, Den: number("-1").Int}, {Num: api.Int{}, Den: number("2").Int}, {Num: unlike()[0], Den: one}, {Num: one, Den: unlike()[3]}} {
		must(t, codec.OfRat(x), "l2:i0;i1;")
	}
}

// P12.5: what is not the list of numerator and denominator of a canonical fraction.
func TestToRatRefuses(t *testing.T) {
	for _, v := range []api.Value{
		list(number("2"), number("4")), list(number("1"), number("0")), list(number("1"), number("-2")), list(number("0"), number("2")), list(number("0"), number("0")), list(number("0"), number("-1")),
		list(number("-6"), number("3")), list(number("3"), number("3")), list(number("1000000000000"), number("1000000000")),
		list(), list(number("1")), list(number("1"), number("2"), number("3")), list(number("1"), number("2"), number("1")), list(text("1"), number("2")), list(number("1"), text("2")), list(number("1"), list(number("2"))), list(list(number("1"), number("2"))),
		number("1"), text("1/2"), text(""), {}, {Kind: 3, List: list(number("1"), number("2")).List}, {Kind: api.ValueText, List: list(number("1"), number("2")).List},
		{Kind: api.ValueList, Text: []byte("a"), List: list(number("1"), number("2")).List}, {Kind: api.ValueList, Int: number("1").Int, List: list(number("1"), number("2")).List},
		list(api.Value{Int: number("1").Int, Text: []byte("a")}, number("2")), list(number("1"), api.Value{Int: number("2").Int, List: []api.Value{{}}}),
		list(api.Value{Int: unlike()[0]}, number("1")), list(api.Value{Int: unlike()[5]}, number("1")), list(number("1"), api.Value{Int: unlike()[3]}),
	} {
		if x, code := codec.ToRat(v); code != api.ErrArgument || x.Num.Negative || len(x.Num.Groups)+len(x.Den.Groups) > 0 {
			t.Errorf("ToRat(%v) = %v, %d", v, x, code)
		}
	}
}

// digestOf is the definition of the digest, in whole numbers modulo 2^64.
func digestOf(b []byte) string {
	mod := new(big.Int).Lsh(big.NewInt(1), 64)
	factor := big.NewInt(1099511628211)
	x, _ := new(big.Int).SetString("14695981039346656037", 10)
	y := new(big.Int).Set(factor)
	length := len(b)
	all := slices.Clone(b)
	for range 8 {
		all = append(all, byte(length%256))
		length /= 256
	}
	for _, c := range all {
		byteOf := big.NewInt(int64(c))
		x.Xor(x, byteOf).Mul(x, factor).Mod(x, mod)
		high := new(big.Int).Rsh(y, 59)
		y.Lsh(y, 5).Mod(y, mod).Add(y, high).Add(y, x).Mod(y, mod).Xor(y, byteOf)
	}
	return fmt.Sprintf("%016x%016x", x, y)
}

// P12.6: digests and names.
func TestSum(t *testing.T) {
	check := func(b []byte) {
		before := slices.Clone(b)
		want := digestOf(b)
		sum := codec.Sum(b)
		if got := fmt.Sprintf("%x", sum[:]); got != want {
			t.Fatalf("Sum(%q) = %s, want %s", b, got, want)
		}
		if name := codec.Name(b); name != want || !codec.IsName(name) || !slices.Equal(b, before) {
			t.Fatalf("Name(%q) = %q, want %q", before, name, want)
		}
		// The first word is the usual digest of the bytes and their length.
		h := fnv.New64a()
		h.Write(b)
		for i := range 8 {
			h.Write([]byte{byte(len(b) >> (8 * i))})
		}
		if got := fmt.Sprintf("%x", sum[:8]); got != fmt.Sprintf("%x", h.Sum(nil)) {
			t.Fatalf("Sum(%q) = %s", b, got)
		}
	}
	check(nil)
	check([]byte{})
	for c := range 256 {
		check([]byte{byte(c)})
		check(slices.Repeat([]byte{byte(c)}, c))
	}
	some(300, func(r *rand.Rand) {
		b := make([]byte, r.Intn(700))
		r.Read(b)
		check(b)
	})
	check(make([]byte, 70000))
	all := make([]byte, 256)
	for c := range all {
		all[c] = byte(c)
	}
	for _, c := range []struct{ bytes, want string }{
		{"", "a8c7f832281a39c50c27ff3ecd96ed33"},
		{"a", "dedf9f982e43402dfacec89df7f9a03b"},
		{"\x00", "c709bb3119a0df9e16042d9db68d90dc"},
		{"fiducial", "12706cbc72f044d6015945c4d9b75960"},
		{string(all), "8dc5dc0d9c87d9ea8f2422d59a144b55"},
		{strings.Repeat("x", 1000), "bbf8c1b4a117a13cf582d0097be1a709"},
	} {
		if got := codec.Name([]byte(c.bytes)); got != c.want {
			t.Errorf("Name(%q) = %s, want %s", c.bytes, got, c.want)
		}
	}
}

// P12.6: what is a name.
func TestIsName(t *testing.T) {
	name := "0123456789abcdeffedcba9876543210"
	for _, s := range []string{name, strings.Repeat("0", 32), strings.Repeat("f", 32), strings.Repeat("9a", 16)} {
		if !codec.IsName(s) {
			t.Errorf("%q is no name", s)
		}
	}
	for _, s := range []string{"", "0", name[1:], name + "0", strings.Repeat("0", 31), strings.Repeat("A", 32), strings.Repeat("é", 16), name + name, strings.Repeat("0", 64)} {
		if codec.IsName(s) {
			t.Errorf("%q is a name", s)
		}
	}
	for c := range 256 {
		for _, i := range []int{0, 13, 31} {
			b := []byte(name)
			b[i] = byte(c)
			if want := strings.Contains("0123456789abcdef", string(rune(c))) && c < 128; codec.IsName(string(b)) != want {
				t.Errorf("IsName(%q) is not %t", b, want)
			}
		}
	}
}
