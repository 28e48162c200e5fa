package codec_test

import (
	"fmt"
	"math/rand"
	"slices"
	"strings"
	"testing"

	"fiducial/api"
	"fiducial/codec"
)

// P12.1, P12.2: valid values, and back.
func TestEncode(t *testing.T) {
	some(6000, func(r *rand.Rand) {
		v := random(r, r.Intn(9))
		must(t, v, canonical(v))
	})
	for _, c := range []struct {
		v    api.Value
		want string
	}{
		{list(number("5"), text("a:"), list()), "l3:i5;t2:a:l0:"},
		{number("-12"), "i-12;"},
		{api.Value{}, "i0;"},
		{api.Value{Int: api.Int{Groups: []uint32{}}, Text: []byte{}, List: []api.Value{}}, "i0;"},
		{number("1000000000"), "i1000000000;"},
		{number("-1000000000000000007"), "i-1000000000000000007;"},
		{text(""), "t0:"},
		{text("0123456789"), "t10:0123456789"},
		{text("\x00\xff;"), "t3:\x00\xff;"},
		{text("é"), "t2:é"},
		{list(), "l0:"},
		{api.Value{Kind: api.ValueList, List: []api.Value{}, Text: []byte{}, Int: api.Int{Groups: []uint32{}}}, "l0:"},
		{list(slices.Repeat([]api.Value{number("7")}, 12)...), "l12:" + strings.Repeat("i7;", 12)},
		{nested(8), "l1:l1:l1:l1:l1:l1:l1:l0:"},
		{nested(8, number("1"), text("")), "l1:l1:l1:l1:l1:l1:l1:l2:i1;t0:"},
		{list(nested(7), nested(7, text("x")), number("3")), "l3:l1:l1:l1:l1:l1:l1:l0:l1:l1:l1:l1:l1:l1:l1:t1:xi3;"},
	} {
		must(t, c.v, c.want)
	}
}

// P12.1: what is not valid, alone, in a list, and together with what is too long.
func TestInvalidValues(t *testing.T) {
	one := []uint32{1}
	bad := map[string]api.Value{
		"a kind below 0":       {Kind: -1},
		"a kind above 2":       {Kind: 3, List: []api.Value{number("1")}},
		"a great kind":         {Kind: 1 << 40},
		"an integer and text":  {Int: api.Int{Groups: one}, Text: []byte("a")},
		"0 and text":           {Text: []byte{0}},
		"an integer and list":  {Int: api.Int{Groups: one}, List: []api.Value{{}}},
		"a text and integer":   {Kind: api.ValueText, Int: api.Int{Groups: one}},
		"a text and group 0":   {Kind: api.ValueText, Int: api.Int{Groups: []uint32{0}}},
		"a text and sign":      {Kind: api.ValueText, Text: []byte("a"), Int: api.Int{Negative: true}},
		"a text and list":      {Kind: api.ValueText, Text: []byte("a"), List: []api.Value{{}}},
		"a list and integer":   {Kind: api.ValueList, Int: api.Int{Groups: one}},
		"a list and sign":      {Kind: api.ValueList, Int: api.Int{Negative: true}},
		"a list and text":      {Kind: api.ValueList, Text: []byte("a"), List: []api.Value{{}}},
		"nine lists":           nested(9),
		"nine lists, number":   nested(9, number("1")),
		"one of two too deep":  list(nested(7), number("0"), nested(8)),
		"ten thousand lists":   nested(10000),
		"nine lists, bad text": nested(9, api.Value{Kind: api.ValueText, Int: api.Int{Negative: true}}),
	}
	for i, x := range unlike() {
		bad[fmt.Sprint("the integer ", i)] = api.Value{Int: x}
	}
	long := text(strings.Repeat("x", 70000))
	for what, v := range bad {
		refused(t, what, v, api.ErrArgument)
		refused(t, what+", in a list", list(v), api.ErrArgument)
		refused(t, what+", at the end of a list", list(number("1"), list(text("a")), v), api.ErrArgument)
		refused(t, what+", before a long text", list(v, long), api.ErrArgument)
		refused(t, what+", behind a long text", list(long, number("1"+strings.Repeat("0", 3000)), list(v)), api.ErrArgument)
		if code := codec.Check(nested(8, v)); code != api.ErrArgument {
			t.Errorf("%s in eight lists: %d", what, code)
		}
	}
}

// depthOf is the depth of a value.
func depthOf(v api.Value) int {
	depth := 0
	for _, e := range v.List {
		depth = max(depth, depthOf(e))
	}
	if v.Kind == api.ValueList {
		depth++
	}
	return depth
}

// P12.1: random values of which one part is changed.
func TestChangedValues(t *testing.T) {
	count := 0
	some(8000, func(r *rand.Rand) {
		v := random(r, 1+r.Intn(8))
		all := parts(&v)
		p := all[r.Intn(len(all))]
		isBad := false
		switch r.Intn(6) {
		case 0:
			p.Kind = api.ValueKind([]int{-1, 3, 256, -1 << 63}[r.Intn(4)])
			isBad = true
		case 1:
			p.Int = unlike()[r.Intn(8)]
			isBad = p.Kind == api.ValueInt || p.Int.Negative || len(p.Int.Groups) > 0
		case 2:
			p.Int = number("12345678901234567890").Int
			isBad = p.Kind != api.ValueInt
		case 3:
			p.Text = []byte("abc")
			isBad = p.Kind != api.ValueText
		case 4:
			p.List = []api.Value{number("3")}
			isBad = p.Kind != api.ValueList
		default:
			*p = nested(1+r.Intn(9), text("a"))
		}
		if isBad || depthOf(v) > 8 {
			refused(t, fmt.Sprint(v), v, api.ErrArgument)
			count++
		} else {
			must(t, v, canonical(v))
		}
	})
	if count < 2000 || count > 7000 {
		t.Errorf("%d of 8000 values are not valid", count)
	}
}

// P12.1: integers with 2000 digits and 65,536 bytes may be, one more is too long.
func TestLongValues(t *testing.T) {
	digits := strings.Repeat("9876543210", 200)
	for _, s := range []string{digits, "-" + digits, "1" + strings.Repeat("0", 1999)} {
		must(t, number(s), "i"+s+";")
		must(t, list(number(s), text("a")), "l2:i"+s+";t1:a")
		refused(t, s, number(s+"0"), api.ErrLong)
		refused(t, s, list(text("a"), nested(7, number(s+"7"))), api.ErrLong)
		refused(t, s, number(s+digits+digits), api.ErrLong)
	}
	most := strings.Repeat("y", 65529)
	must(t, text(most), "t65529:"+most)
	refused(t, "a text", text(most+"y"), api.ErrLong)
	must(t, list(text(most[3:])), "l1:t65526:"+most[3:])
	refused(t, "a text in a list", list(text(most[2:])), api.ErrLong)
	must(t, nested(8, text(most[24:])), "l1:l1:l1:l1:l1:l1:l1:l1:t65505:"+most[24:])
	refused(t, "a text in eight lists", nested(8, text(most[23:])), api.ErrLong)
	must(t, list(text(most[6:]), list()), "l2:t65523:"+most[6:]+"l0:")
	refused(t, "a list behind a text", list(text(most[5:]), list()), api.ErrLong)
	// Three bytes of each element: 7 + 3 * 21843 = 65536.
	zeros := slices.Repeat([]api.Value{{}}, 21843)
	must(t, list(zeros...), "l21843:"+strings.Repeat("i0;", 21843))
	refused(t, "a list", list(append(zeros, text(""))...), api.ErrLong)
	zeros[21842] = number("10")
	refused(t, "a list with a longer end", list(zeros...), api.ErrLong)
	refused(t, "a long text", text(strings.Repeat("z", 1<<20)), api.ErrLong)
	refused(t, "a long list", list(make([]api.Value, 1<<18)...), api.ErrLong)
	numbers := slices.Repeat([]api.Value{number(digits)}, 32)
	must(t, list(numbers...), canonical(list(numbers...)))
	refused(t, "33 long numbers", list(append(numbers, numbers[0])...), api.ErrLong)
}

// P12.4: values are equal if all fields are, valid or not; two valid ones exactly if their bytes are.
func TestEqual(t *testing.T) {
	some(4000, func(r *rand.Rand) {
		v := random(r, r.Intn(9))
		w := copied(v)
		if !codec.Equal(v, w) || !codec.Equal(w, v) || !codec.Equal(v, v) {
			t.Fatalf("%v and %v are not equal", v, w)
		}
		other := random(r, r.Intn(3))
		if got := codec.Equal(v, other); got != (canonical(v) == canonical(other)) {
			t.Fatalf("Equal(%v, %v) = %t", v, other, got)
		}
		all := parts(&w)
		change(r, all[r.Intn(len(all))])
		if codec.Equal(v, w) || codec.Equal(w, v) || !codec.Equal(w, copied(w)) {
			t.Fatalf("%v and %v are equal", v, w)
		}
	})
	small := []api.Value{}
	for _, e := range []api.Value{number("0"), number("1"), number("-1"), number("1000000000"), text(""), text("0"), list()} {
		small = append(small, e, list(e), list(e, e), list(list(e)))
	}
	for i, v := range small {
		for k, w := range small {
			if codec.Equal(v, w) != (i == k) {
				t.Errorf("Equal(%v, %v)", v, w)
			}
		}
	}
	deep := nested(5000, number("1"))
	if !codec.Equal(deep, copied(deep)) || codec.Equal(deep, nested(5000, number("2"))) || codec.Equal(deep, nested(5001, number("1"))) {
		t.Error("values that are nested deep")
	}
}

// change changes one field of v, which need not be one that its kind uses.
func change(r *rand.Rand, v *api.Value) {
	switch r.Intn(7) {
	case 0:
		v.Kind += api.ValueKind(1 + r.Intn(3))
	case 1:
		v.Int.Negative = !v.Int.Negative
	case 2:
		v.Int.Groups = append(v.Int.Groups, uint32(r.Intn(2)))
	case 3:
		v.Text = append(v.Text, byte(r.Intn(2)))
	case 4:
		v.List = append(v.List, api.Value{})
	case 5:
		if len(v.Text) == 0 {
			v.Text = []byte{0}
		}
		v.Text[r.Intn(len(v.Text))] ^= 1
	default:
		if len(v.Int.Groups) == 0 {
			v.Int.Groups = []uint32{0}
		}
		v.Int.Groups[r.Intn(len(v.Int.Groups))] ^= 1
	}
}
