package frame_test

import (
	"encoding/binary"
	"fmt"
	"maps"
	"math"
	"math/rand"
	"slices"
	"strconv"
	"strings"
	"testing"

	"fiducial/api"
	"fiducial/frame"
)

// of is a raster with some rows.
func of(most int, rows ...[]int) api.Raster {
	return api.Raster{Width: len(rows[0]), Height: len(rows), Max: most, Pixels: slices.Concat(rows...)}
}

// framed is a frame with a raster and some keys and values.
func framed(r api.Raster, meta ...string) api.Frame {
	f := api.Frame{Raster: r}
	for l := range slices.Chunk(meta, 2) {
		f.Meta = append(f.Meta, api.Entry{Key: l[0], Value: l[1]})
	}
	return f
}

// example is a frame.
func example() api.Frame {
	return framed(of(3, []int{1, 3, 0}), "a", "first", "b", "", "b_2", " x  y ")
}

// some calls check many times.
func some(rounds int, check func(r *rand.Rand)) {
	r := rand.New(rand.NewSource(15))
	for range rounds {
		check(r)
	}
}

// pick is an element of a list.
func pick[T any](r *rand.Rand, l []T) T { return l[r.Intn(len(l))] }

// randomRaster is a raster; some are rough, and some smooth.
func randomRaster(r *rand.Rand) api.Raster {
	size := func() int { return pick(r, []int{1, 2, 3, 1 + r.Intn(12), 1 + r.Intn(12), 64}) }
	a := api.Raster{Width: size(), Height: size(), Max: pick(r, []int{1, 2, 3, 4, 15, 254, 255, 65534, 65535, 1 + r.Intn(65535)})}
	step, grey := 1+r.Intn(pick(r, []int{1, 3, a.Max})), r.Intn(a.Max+1)
	for range a.Width * a.Height {
		grey = min(a.Max, max(0, grey+r.Intn(2*step+1)-step))
		if r.Intn(20) == 0 {
			grey = r.Intn(a.Max + 1)
		}
		a.Pixels = append(a.Pixels, grey)
	}
	return a
}

// randomMeta is metadata with distinct keys in their order.
func randomMeta(r *rand.Rand) []api.Entry {
	n := pick(r, []int{0, 1, 3, 32})
	values := map[string]string{}
	for len(values) < n {
		values[randomKey(r)] = randomValue(r)
	}
	var l []api.Entry
	for _, key := range slices.Sorted(maps.Keys(values)) {
		l = append(l, api.Entry{Key: key, Value: values[key]})
	}
	return l
}

// randomKey is a key; many begin alike.
func randomKey(r *rand.Rand) string {
	s := string(rune('a' + r.Intn(3)))
	for range pick(r, []int{0, 1, 2, r.Intn(24), 23}) {
		s += string(pick(r, []byte("abz019_")))
	}
	return s
}

// randomValue is a value.
func randomValue(r *rand.Rand) string {
	s := ""
	for range pick(r, []int{0, 1, 5, 120}) {
		s += string(rune(32 + r.Intn(95)))
	}
	return s
}

// randomFrame is a frame.
func randomFrame(r *rand.Rand) api.Frame {
	return api.Frame{Meta: randomMeta(r), Raster: randomRaster(r)}
}

// at is the pixel (x, y).
func at(a api.Raster, x, y int) int { return a.Pixels[y*a.Width+x] }

// predicted is the prediction of the pixel (x, y): the middle one of the left, the upper, and the sum of both less the one between them.
func predicted(a api.Raster, x, y int) int {
	switch {
	case x == 0 && y == 0:
		return 0
	case y == 0:
		return at(a, x-1, y)
	case x == 0:
		return at(a, x, y-1)
	}
	left, above := at(a, x-1, y), at(a, x, y-1)
	l := []int{left, above, left + above - at(a, x-1, y-1)}
	slices.Sort(l)
	return l[1]
}

// signed is the difference with the residual v: 0, 1, -1, 2, -2 and so on.
func signed(v int) int {
	s := 0
	for i := 1; i <= v; i++ {
		if s > 0 {
			s = -s
		} else {
			s = 1 - s
		}
	}
	return s
}

// ranks are the residuals of the differences modulo m.
func ranks(m int) []int {
	l := make([]int, m)
	s := 0
	for v := range m {
		l[(s+m)%m] = v
		if s > 0 {
			s = -s
		} else {
			s = 1 - s
		}
	}
	return l
}

// residualsOf are the residuals of a raster.
func residualsOf(a api.Raster) []int {
	rank := ranks(a.Max + 1)
	var l []int
	for y := range a.Height {
		for x := range a.Width {
			l = append(l, rank[(at(a, x, y)-predicted(a, x, y)+a.Max+1)%(a.Max+1)])
		}
	}
	return l
}

// coded are the digits of the codes of a row.
func coded(row []int, k int) string {
	s := ""
	for _, v := range row {
		s += strings.Repeat("1", v/(1<<k)) + "0"
		if k > 0 {
			s += fmt.Sprintf("%0*b", k, v%(1<<k))
		}
	}
	return s
}

// lengths are the numbers of bits of a row with all parameters.
func lengths(row []int) []int {
	var l []int
	for k := range 17 {
		n := 0
		for _, v := range row {
			n += v/(1<<k) + 1 + k
		}
		l = append(l, n)
	}
	return l
}

// bestOf are the parameter of a row and the number of its bits.
func bestOf(row []int) (int, int) {
	l := lengths(row)
	k := slices.Index(l, slices.Min(l))
	return k, l[k]
}

// packed are the bytes with some digits.
func packed(digits string) []byte {
	var b []byte
	for len(digits)%8 != 0 {
		digits += "0"
	}
	for part := range slices.Chunk([]byte(digits), 8) {
		n, err := strconv.ParseUint(string(part), 2, 8)
		if err != nil {
			panic(err)
		}
		b = append(b, byte(n))
	}
	return b
}

// topOf is the part of the file of a frame before its rows.
func topOf(f api.Frame) []byte {
	s := "FRAME1\n"
	for _, e := range f.Meta {
		s += fmt.Sprintf("%s %s\n", e.Key, e.Value)
	}
	b := []byte(s + "\n")
	for _, n := range []int{f.Raster.Width, f.Raster.Height, f.Raster.Max} {
		b = binary.BigEndian.AppendUint32(b, uint32(n))
	}
	return b
}

// fileOf is the file of a frame.
func fileOf(f api.Frame) []byte {
	b := topOf(f)
	for row := range slices.Chunk(residualsOf(f.Raster), f.Raster.Width) {
		k, _ := bestOf(row)
		b = append(append(b, byte(k)), packed(coded(row, k))...)
	}
	return b
}

// sameRaster and same report whether two values are equal; nil and empty lists are.
func sameRaster(a, b api.Raster) bool {
	return a.Width == b.Width && a.Height == b.Height && a.Max == b.Max && slices.Equal(a.Pixels, b.Pixels)
}

func same(a, b api.Frame) bool { return slices.Equal(a.Meta, b.Meta) && sameRaster(a.Raster, b.Raster) }

// isEmpty reports whether f is the zero value.
func isEmpty(f api.Frame) bool { return same(f, api.Frame{}) }

// copied is f in new memory.
func copied(f api.Frame) api.Frame {
	f.Meta, f.Raster.Pixels = slices.Clone(f.Meta), slices.Clone(f.Raster.Pixels)
	return f
}

// spoil overwrites the memory of f.
func spoil(f api.Frame) {
	for i := range f.Meta {
		f.Meta[i] = api.Entry{Key: "spoilt"}
	}
	_ = append(f.Meta, api.Entry{Key: "spoilt"})
	for i := range f.Raster.Pixels {
		f.Raster.Pixels[i] = -7
	}
	_ = append(f.Raster.Pixels, -7)
}

// badKeys are no keys.
func badKeys() []string {
	l := []string{"", "A", "1", "_", "1a", "_a", "aA", "a b", " a", "a ", "a\n", "a-", "a.", "\u00e9", "a\u00e9", "a\xff", "\xff", strings.Repeat("x", 25), strings.Repeat("x", 24) + "_", strings.Repeat("x", 1000)}
	for c := range 256 {
		if b := byte(c); c > 127 || !strings.Contains("abcdefghijklmnopqrstuvwxyz0123456789_", string(rune(c))) {
			l = append(l, string([]byte{'a', b}), string([]byte{'a', b, 'b'}))
		}
		if c < 'a' || c > 'z' {
			l = append(l, string([]byte{byte(c)}), string([]byte{byte(c), 'a'}))
		}
	}
	return l
}

// goodKeys are keys.
func goodKeys() []string {
	l := []string{strings.Repeat("x", 24), "a_", "a__9", "z" + strings.Repeat("_", 23)}
	for _, c := range "abcdefghijklmnopqrstuvwxyz0123456789_" {
		l = append(l, "a"+string(c))
		if c >= 'a' {
			l = append(l, string(c))
		}
	}
	return l
}

// badValues are values that have a byte that none may have, but are not too long.
func badValues() []string {
	l := []string{"\u00e9", strings.Repeat("x", 119) + "\n", strings.Repeat("\u00e9", 60), "\x1f", "\x7f", "a\x7fb"}
	for c := range 256 {
		if c < 32 || c > 126 {
			l = append(l, string([]byte{byte(c)}), string([]byte{'a', byte(c)}), string([]byte{byte(c), 'a'}))
		}
	}
	return l
}

// badRasters are no rasters.
func badRasters() []api.Raster {
	return []api.Raster{
		{}, {Width: 1, Height: 1, Max: 1}, {Width: 1, Height: 1, Pixels: []int{0}}, {Width: 2, Height: 1, Max: 1, Pixels: []int{0}}, {Width: 1, Height: 1, Max: 1, Pixels: []int{2}}, {Width: 1, Height: 1, Max: 1, Pixels: []int{-1}}, {Width: 65, Height: 1, Max: 1, Pixels: make([]int, 65)}, {Width: 1, Height: 65, Max: 1, Pixels: make([]int, 65)}, {Width: 1, Height: 1, Max: 65536, Pixels: []int{0}},
		{Width: -1, Height: -1, Max: 1, Pixels: []int{0}}, {Width: 1 << 32, Height: 1 << 32, Max: 1}, {Width: 1, Height: 1, Max: 1, Pixels: []int{0, 0}}, {Width: 1, Height: 1, Max: math.MaxInt, Pixels: []int{0}}, {Width: math.MinInt, Height: 0, Max: 1},
	}
}

// far are numbers that are out of all ranges.
func far() []int {
	return []int{-1, -2, -65535, math.MinInt, math.MinInt + 1, math.MaxInt, math.MaxInt - 1, 1 << 32, 1<<32 + 1, -1 << 32, 1 << 62, 65536}
}

// must fails the test if f is not encoded as its file, or this not decoded as f.
func must(t *testing.T, f api.Frame) {
	t.Helper()
	before := copied(f)
	want := fileOf(f)
	file, code := frame.Encode(f)
	if code != api.OK || !slices.Equal(file, want) {
		t.Fatalf("Encode(%v) = %q, %d, want %q", before, file, code, want)
	}
	g, code := frame.Decode(file)
	if code != api.OK || !same(g, before) || !slices.Equal(file, want) || frame.Check(g) != api.OK {
		t.Fatalf("Decode(%q) = %v, %d, want %v", want, g, code, before)
	}
	if !same(f, before) {
		t.Fatalf("%v has become %v", before, f)
	}
}
