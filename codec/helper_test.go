package codec_test

import (
	"fmt"
	"math/big"
	"math/rand"
	"slices"
	"strings"
	"testing"

	"fiducial/api"
	"fiducial/codec"
)

// billion is the number that a group is below.
var billion = big.NewInt(1_000_000_000)

// bigOf is the value of a canonical integer, group by group.
func bigOf(x api.Int) *big.Int {
	z := new(big.Int)
	for _, g := range slices.Backward(x.Groups) {
		z.Mul(z, billion)
		z.Add(z, big.NewInt(int64(g)))
	}
	if x.Negative {
		z.Neg(z)
	}
	return z
}

// ofBig is the canonical integer with the value of z.
func ofBig(z *big.Int) api.Int {
	x := api.Int{Negative: z.Sign() < 0}
	rest, group := new(big.Int).Abs(z), new(big.Int)
	for rest.Sign() > 0 {
		rest.QuoRem(rest, billion, group)
		x.Groups = append(x.Groups, uint32(group.Int64()))
	}
	return x
}

// number is the integer with a decimal text as a value.
func number(s string) api.Value {
	z, ok := new(big.Int).SetString(s, 10)
	if !ok {
		panic(s)
	}
	return api.Value{Int: ofBig(z)}
}

// text is a text as a value.
func text(s string) api.Value {
	return api.Value{Kind: api.ValueText, Text: []byte(s)}
}

// list is a list as a value.
func list(l ...api.Value) api.Value {
	return api.Value{Kind: api.ValueList, List: l}
}

// nested is a value inside of so many lists.
func nested(levels int, l ...api.Value) api.Value {
	v := list(l...)
	for range levels - 1 {
		v = list(v)
	}
	return v
}

// canonical are the canonical bytes of a valid value, as the chapter describes them.
func canonical(v api.Value) string {
	switch v.Kind {
	case api.ValueInt:
		return fmt.Sprintf("i%d;", bigOf(v.Int))
	case api.ValueText:
		return fmt.Sprintf("t%d:%s", len(v.Text), v.Text)
	}
	var all []string
	for _, e := range v.List {
		all = append(all, canonical(e))
	}
	return fmt.Sprintf("l%d:%s", len(v.List), strings.Join(all, ""))
}

// unlike is some integers that are not canonical.
func unlike() []api.Int {
	return []api.Int{
		{Negative: true}, {Negative: true, Groups: []uint32{}}, {Groups: []uint32{0}}, {Groups: []uint32{5, 0}}, {Negative: true, Groups: []uint32{0}},
		{Groups: []uint32{1_000_000_000}}, {Groups: []uint32{1<<32 - 1, 1}}, {Groups: []uint32{1, 1_000_000_000, 1}},
	}
}

// alphabet has the bytes of the strings that are tried all, symbols those of random strings.
const (
	alphabet = "itl:;-012"
	symbols  = alphabet + "39a\x00\xff"
)

// some calls check many times.
func some(rounds int, check func(r *rand.Rand)) {
	r := rand.New(rand.NewSource(12))
	for range rounds {
		check(r)
	}
}

// random returns a valid value whose lists are nested at most so deep.
func random(r *rand.Rand, depth int) api.Value {
	kind := r.Intn(3)
	if depth == 0 {
		kind = r.Intn(2)
	}
	switch kind {
	case 0:
		z := new(big.Int).Rand(r, new(big.Int).Exp(big.NewInt(10), big.NewInt(int64(r.Intn(40))), nil))
		if r.Intn(3) == 0 {
			z.SetInt64(int64(r.Intn(4)))
		}
		if r.Intn(2) == 0 {
			z.Neg(z)
		}
		return api.Value{Int: ofBig(z)}
	case 1:
		b := make([]byte, r.Intn(13))
		for i := range b {
			b[i] = symbols[r.Intn(len(symbols))]
		}
		return text(string(b))
	}
	v := list()
	for range r.Intn(5) {
		v.List = append(v.List, random(r, depth-1))
	}
	return v
}

// exchanged is a copy of a list, but an empty list in place of nil and nil in place of an empty one.
func exchanged[T any](l []T) []T {
	switch {
	case l == nil:
		return []T{}
	case len(l) == 0:
		return nil
	}
	return slices.Clone(l)
}

// copied is a copy of v in new memory, in which nil and empty lists are exchanged.
func copied(v api.Value) api.Value {
	v.Int.Groups, v.Text, v.List = exchanged(v.Int.Groups), exchanged(v.Text), exchanged(v.List)
	for i, e := range v.List {
		v.List[i] = copied(e)
	}
	return v
}

// parts are the value v and all values in it.
func parts(v *api.Value) []*api.Value {
	all := []*api.Value{v}
	for i := range v.List {
		all = append(all, parts(&v.List[i])...)
	}
	return all
}

// spoil overwrites the memory of v.
func spoil(v api.Value) {
	for i := range v.Int.Groups {
		v.Int.Groups[i] = 987654321
	}
	for i := range v.Text {
		v.Text[i] = '#'
	}
	_ = append(v.Int.Groups, 987654321)
	_ = append(v.Text, '#')
	for i, e := range v.List {
		spoil(e)
		v.List[i] = text("spoilt")
	}
	_ = append(v.List, text("spoilt"))
}

// must fails the test if v is not encoded as want, or this not decoded as v.
func must(t *testing.T, v api.Value, want string) {
	t.Helper()
	before := copied(v)
	got, code := codec.Encode(v)
	if string(got) != want || code != api.OK {
		t.Fatalf("Encode(%v) = %q, %d, want %q", v, got, code, want)
	}
	if n, code := codec.Size(v); n != len(want) || code != api.OK {
		t.Fatalf("Size(%v) = %d, %d", v, n, code)
	}
	if code := codec.Check(v); code != api.OK {
		t.Fatalf("Check(%v): %d", v, code)
	}
	w, code := codec.Decode(got)
	if code != api.OK || !codec.Equal(v, w) || string(got) != want {
		t.Fatalf("Decode(%q) = %v, %d, want %v", got, w, code, v)
	}
	if !codec.Equal(v, before) {
		t.Fatalf("%v has been changed to %v", before, v)
	}
}

// refused fails the test if v can be encoded, or other results than the code are not zero.
func refused(t *testing.T, what string, v api.Value, want api.Code) {
	t.Helper()
	if code := codec.Check(v); code != want {
		t.Errorf("Check of %s: %d, want %d", what, code, want)
	}
	if b, code := codec.Encode(v); code != want || len(b) > 0 {
		t.Errorf("Encode of %s: %d bytes, %d, want %d", what, len(b), code, want)
	}
	if n, code := codec.Size(v); code != want || n != 0 {
		t.Errorf("Size of %s: %d, %d, want %d", what, n, code, want)
	}
}

// isZero reports whether v is the zero value.
func isZero(v api.Value) bool {
	return v.Kind == 0 && !v.Int.Negative && len(v.Int.Groups) == 0 && len(v.Text) == 0 && len(v.List) == 0
}
