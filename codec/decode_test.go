package codec_test

import (
	"fmt"
	"math/big"
	"math/rand"
	"slices"
	"strings"
	"testing"

	"fiducial/api"
	"fiducial/codec"
)

// words are all strings of n bytes of the alphabet.
func words(n int) []string {
	l := []string{""}
	for range n {
		var next []string
		for _, s := range l {
			for _, c := range alphabet {
				next = append(next, s+string(c))
			}
		}
		l = next
	}
	return l
}

// encodings are the canonical bytes, of n bytes of the alphabet, of all values.
func encodings(n int, known [][]string) []string {
	var l []string
	if n < 3 {
		return nil
	}
	for _, s := range words(n - 2) {
		// Exactly the numerals are written as they were read.
		if z, ok := new(big.Int).SetString(s, 10); ok && z.String() == s {
			l = append(l, "i"+s+";")
		}
	}
	for size := range n - 2 {
		head := fmt.Sprintf("t%d:", size)
		if len(head)+size == n && strings.Trim(head, alphabet) == "" {
			for _, s := range words(size) {
				l = append(l, head+s)
			}
		}
	}
	for size := range 3 {
		head := fmt.Sprintf("l%d:", size)
		for _, s := range joined(size, n-len(head), known) {
			l = append(l, head+s)
		}
	}
	return l
}

// joined are all strings of n bytes that consist of so many known ones.
func joined(count, n int, known [][]string) []string {
	if count == 0 && n == 0 {
		return []string{""}
	}
	if count == 0 {
		return nil
	}
	var l []string
	for size := range n + 1 {
		if size < len(known) {
			for _, first := range known[size] {
				for _, rest := range joined(count-1, n-size, known) {
					l = append(l, first+rest)
				}
			}
		}
	}
	return l
}

// P12.2, P12.3: all strings of up to six bytes of an alphabet: Decode takes exactly the canonical bytes, and none of them begin others.
func TestDecodeAll(t *testing.T) {
	var known [][]string
	accepted := map[string]bool{}
	for n := range 7 {
		known = append(known, encodings(n, known))
		for _, s := range known[n] {
			accepted[s] = true
		}
	}
	count := 0
	for n := range 7 {
		for _, s := range words(n) {
			v, code := codec.Decode([]byte(s))
			want := api.ErrSyntax
			if accepted[s] {
				want = api.OK
				count++
				must(t, v, s)
			}
			if code != want || code != api.OK && !isZero(v) {
				t.Fatalf("Decode(%q) = %v, %d, want %d", s, v, code, want)
			}
		}
	}
	for s := range accepted {
		for n := range len(s) {
			if accepted[s[:n]] {
				t.Errorf("%q begins %q", s[:n], s)
			}
		}
	}
	if count != len(accepted) || count < 200 {
		t.Errorf("%d of %d canonical bytes", count, len(accepted))
	}
}

// P12.2: what is not the canonical bytes of any value.
func TestDecodeInvalid(t *testing.T) {
	digits := strings.Repeat("1234567890", 200)
	for _, s := range []string{
		"", "i05;", "i-0;", "t01:a", "t2:a", "l1:", "i5;i5;",
		"i", "i;", "i5", "i-;", "i+5;", "i 5;", "i5 ;", "i5;;", "i5,", "i1_0;", "i0x1;", "i00;", "i5;\n", " i5;", "i--5;", "i5:", "I5;", "n5;", "i\xb5;",
		"t", "t:", "t1", "t:a", "t-1:", "t-0:", "t+1:a", "t1:", "t1:ab", "t00:", "t1;a", "t 1:a", "t3:ab", "t0", "t0x1:a", "T1:a",
		"t9223372036854775807:a", "t9223372036854775808:a", "t18446744073709551616:", "t18446744073709551617:a", "t-9223372036854775808:", "t99999999999999999999999999:", "t65537:a",
		"l", "l:", "l0", "l00:", "l-1:", "l-0:", "l+0:", "l01:i5;", "l2:i5;", "l1:i5;i5;", "l1:i5", "l0:i5;", "l1:x", "l0;", "l1:l1:", "L0:",
		"l9223372036854775807:i5;", "l9223372036854775808:", "l18446744073709551616:", "l18446744073709551617:i5;", "l1000000000:i5;i5;",
		"l1:l1:l1:l1:l1:l1:l1:l1:l0:", "l1:l1:l1:l1:l1:l1:l1:l1:l1:i5;", "l2:l1:l1:l1:l1:l1:l1:l0:l1:l1:l1:l1:l1:l1:l1:l0:",
		"i" + digits + "1;", "i-" + digits + "1;", "l1:i" + digits + "1;", strings.Repeat("l1:", 20000), strings.Repeat("i", 60000), strings.Repeat("l2:i5;", 10000),
		"t" + digits + digits + ":", "l0" + digits + ":", "t" + strings.Repeat("0", 60000) + "1:a",
	} {
		if v, code := codec.Decode([]byte(s)); code != api.ErrSyntax || !isZero(v) {
			t.Errorf("Decode(%.40q) = %v, %d", s, v, code)
		}
	}
	if v, code := codec.Decode(nil); code != api.ErrSyntax || !isZero(v) {
		t.Errorf("Decode(nil) = %v, %d", v, code)
	}
}

// P12.2: 65,536 bytes may be read, whatever they are; more are too long.
func TestDecodeLong(t *testing.T) {
	most := "t65529:" + strings.Repeat("u", 65529)
	if v, code := codec.Decode([]byte(most)); code != api.OK || len(v.Text) != 65529 {
		t.Errorf("Decode of 65536 bytes: %d", code)
	}
	for _, s := range []string{most + "u", "t65530:" + strings.Repeat("u", 65530), strings.Repeat("x", 65537), strings.Repeat("i5;", 50000), strings.Repeat("l1:", 1<<20)} {
		if v, code := codec.Decode([]byte(s)); code != api.ErrLong || !isZero(v) {
			t.Errorf("Decode of %d bytes: %d", len(s), code)
		}
	}
	for _, s := range []string{most[:65535], most[:65535] + ";", strings.Repeat("x", 65536)} {
		_, code := codec.Decode([]byte(s))
		want := api.ErrSyntax
		if strings.HasSuffix(s, "u;") {
			want = api.OK
		}
		if code != want {
			t.Errorf("Decode of %d bytes: %d, want %d", len(s), code, want)
		}
	}
	list, code := codec.Decode([]byte("l21843:" + strings.Repeat("t0:", 21843)))
	if code != api.OK || len(list.List) != 21843 {
		t.Errorf("Decode of a long list: %d elements, %d", len(list.List), code)
	}
}

// P12.2: changed bytes are refused, or the canonical bytes of another value.
func TestDecodeChanged(t *testing.T) {
	count := map[api.Code]int{}
	some(40000, func(r *rand.Rand) {
		b := []byte(canonical(random(r, r.Intn(5))))
		for range 1 + r.Intn(2) {
			i, symbol := r.Intn(len(b)), symbols[r.Intn(len(symbols))]
			switch r.Intn(3) {
			case 0:
				b[i] = symbol
			case 1:
				b = slices.Insert(b, i, symbol)
			default:
				b = slices.Delete(b, i, i+1)
			}
		}
		before := slices.Clone(b)
		v, code := codec.Decode(b)
		count[code]++
		if code == api.OK && canonical(v) != string(before) || code != api.OK && (code != api.ErrSyntax || !isZero(v)) || !slices.Equal(b, before) {
			t.Fatalf("Decode(%q) = %v, %d", before, v, code)
		}
	})
	if min(count[api.OK], count[api.ErrSyntax]) < 2000 {
		t.Errorf("%v strings", count)
	}
}

// P12.3: no beginning of canonical bytes is canonical, nor is what goes on behind them.
func TestNoBeginnings(t *testing.T) {
	some(500, func(r *rand.Rand) {
		s := canonical(random(r, r.Intn(6)))
		for n := range len(s) {
			if v, code := codec.Decode([]byte(s[:n])); code != api.ErrSyntax || !isZero(v) {
				t.Fatalf("Decode(%q) = %v, %d", s[:n], v, code)
			}
		}
		for _, rest := range []string{"i0;", "\x00", ";", s} {
			if v, code := codec.Decode([]byte(s + rest)); code != api.ErrSyntax || !isZero(v) {
				t.Fatalf("Decode(%q) = %v, %d", s+rest, v, code)
			}
		}
	})
}

// P12.1, P12.2: results share no memory with arguments or with one another.
func TestNothingIsShared(t *testing.T) {
	v := list(number("12345678901234567890"), text("abc"), list(text("d"), number("-5")), number("-5"))
	want := canonical(v)
	b, _ := codec.Encode(v)
	w, _ := codec.Decode(b)
	for i := range b {
		b[i] = '#'
	}
	_ = append(b, '#')
	if canonical(v) != want || canonical(w) != want {
		t.Errorf("%q and %q", canonical(v), canonical(w))
	}
	again, _ := codec.Encode(v)
	spoil(v)
	if string(again) != want || canonical(w) != want {
		t.Errorf("%q and %q", again, canonical(w))
	}
	first, _ := codec.Decode(again)
	for i, e := range first.List {
		spoil(e)
		for k, other := range w.List {
			if k > i && canonical(first.List[k]) != canonical(other) {
				t.Errorf("the element %d has changed with %d", k, i)
			}
		}
	}
}
