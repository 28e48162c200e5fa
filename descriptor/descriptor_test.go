package descriptor_test

import (
	"math/rand"
	"slices"
	"testing"

	"fiducial/api"
	"fiducial/descriptor"
)

// wantWords fails the test if All, or Describe of some pixels (of all if there are few), does not return the words of a raster. It returns how many words there are, and how many pairs of equal means.
func wantWords(t *testing.T, a api.Raster, p []descriptor.Test) (words, equal int) {
	t.Helper()
	before, pattern := copied(a), slices.Clone(p)
	var pixels []api.Pix
	var list []uint64
	for i := range a.Pixels {
		x, y := i%a.Width, i/a.Width
		want, same, wantCode := wordOf(a, p, x, y)
		if i%(1+len(a.Pixels)/300) == 0 {
			got, code := descriptor.Describe(a, p, x, y)
			if got != want || code != wantCode {
				t.Fatalf("Describe(%v, %v, %d, %d) = %x, %d, want %x, %d", a, p, x, y, got, code, want, wantCode)
			}
		}
		if wantCode == api.OK {
			pixels, list = append(pixels, api.Pix{X: x, Y: y}), append(list, want)
			equal += same
		}
	}
	gotPixels, gotWords, code := descriptor.All(a, p)
	if code != api.OK || !slices.Equal(gotPixels, pixels) || !slices.Equal(gotWords, list) {
		t.Fatalf("All(%v, %v) = %v, %x, %d, want %v, %x", a, p, gotPixels, gotWords, code, pixels, list)
	}
	if !slices.Equal(a.Pixels, before.Pixels) || !slices.Equal(p, pattern) {
		t.Fatalf("Describe or All of %v, %v has changed an argument", before, pattern)
	}
	return len(list), equal
}

// P21.2, P21.3: the words of all pixels, by their definition.
func TestWords(t *testing.T) {
	words, equal, none := 0, 0, 0
	some(120, func(r *rand.Rand) {
		p := randomPattern(r)
		if r.Intn(10) == 0 {
			p = descriptor.Standard()
		}
		n, same := wantWords(t, random(r), p)
		words, equal = words+n, equal+same
		if n == 0 {
			none++
		}
	})
	if words < 5000 || equal < 5000 || none < 10 {
		t.Errorf("%d words, %d equal means, %d rasters without words", words, equal, none)
	}
}

// P21.2, P21.3: boxes that just fit into the raster, and all boxes in small rasters.
func TestWordsAtBorder(t *testing.T) {
	some(20, func(r *rand.Rand) {
		a := drawn(1+r.Intn(3), 1+r.Intn(3), 3, func(x, y int) int { return r.Intn(4) })
		for x := -2; x <= 2; x++ {
			for y := -2; y <= 2; y++ {
				for size := range 9 {
					wantWords(t, a, one([4]int{x, y, 1 + size%3, 1 + size/3}, [4]int{0, 0, 1, 1}))
					wantWords(t, a, one([4]int{0, 0, 1, 1}, [4]int{x, y, 1 + size/3, 1 + size%3}))
				}
			}
		}
	})
	a := drawn(64, 64, 9, func(x, y int) int { return (x*x + 3*y) % 10 })
	for _, b := range [][4]int{{-16, -16, 8, 8}, {9, 9, 8, 8}, {-16, 16, 1, 1}, {16, -16, 1, 1}, {9, -16, 8, 8}} {
		pixels, _, code := descriptor.All(a, one(b, b))
		if code != api.OK || len(pixels) == 0 {
			t.Fatalf("All of %v: %d, %d", b, len(pixels), code)
		}
		first, last := pixels[0], pixels[len(pixels)-1]
		if first.X != max(0, -b[0]) || first.Y != max(0, -b[1]) || last.X != min(63, 64-b[0]-b[2]) || last.Y != min(63, 64-b[1]-b[3]) {
			t.Errorf("All of %v: %v to %v", b, first, last)
		}
	}
}

// P21.2: the example of the chapter, and the greatest sums; the last bit.
func TestDescribe(t *testing.T) {
	for x, want := range []struct {
		word uint64
		code api.Code
	}{{1, api.OK}, {0, api.OK}, {0, api.ErrOutside}} {
		if w, code := descriptor.Describe(of(9, []int{1, 5, 5}), beside(), x, 0); w != want.word || code != want.code {
			t.Errorf("Describe at %d = %d, %d", x, w, code)
		}
	}
	a := drawn(64, 64, 65535, func(x, y int) int { return 65535 })
	a.Pixels[20*64+20]--
	p := slices.Repeat(one([4]int{0, 0, 7, 8}, [4]int{-9, -9, 8, 7}), 64)
	p[17].B = p[17].A
	if w, code := descriptor.Describe(a, p, 20, 20); w != 1<<64-1-1<<17 || code != api.OK {
		t.Errorf("Describe = %x, %d", w, code)
	}
	p = append(slices.Repeat(one([4]int{1, 0, 1, 1}, [4]int{0, 0, 1, 1}), 63), beside()...)
	if w, code := descriptor.Describe(of(9, []int{1, 5, 5}), p, 0, 0); w != 1<<63 || code != api.OK {
		t.Errorf("Describe = %x, %d", w, code)
	}
}

// P21.2, P21.3: a raster, then a pattern, then a pixel, then a box that is outside.
func TestDescribeInvalid(t *testing.T) {
	good := of(9, []int{1, 5, 5})
	outside := append(far(), -1, 64)
	wants := func(a api.Raster, p []descriptor.Test, x, y int, want api.Code) {
		t.Helper()
		if w, code := descriptor.Describe(a, p, x, y); w != 0 || code != want {
			t.Errorf("Describe(%v, %v, %d, %d) = %x, %d, want %d", a, p, x, y, w, code, want)
		}
	}
	for _, a := range invalidRasters() {
		wants(a, beside(), 0, 0, api.ErrArgument)
		wants(a, nil, -1, 0, api.ErrArgument)
		if pixels, words, code := descriptor.All(a, beside()); len(pixels) != 0 || len(words) != 0 || code != api.ErrArgument {
			t.Errorf("All(%v) = %v, %x, %d", a, pixels, words, code)
		}
	}
	for _, p := range invalidPatterns() {
		wants(good, p, 0, 0, api.ErrArgument)
		wants(good, p, 3, 0, api.ErrArgument)
		if pixels, words, code := descriptor.All(good, p); len(pixels) != 0 || len(words) != 0 || code != api.ErrArgument {
			t.Errorf("All with %v = %v, %x, %d", p, pixels, words, code)
		}
	}
	away := one([4]int{0, 0, 1, 1}, [4]int{-3, 0, 1, 1})
	for _, n := range outside {
		wants(good, beside(), n, 0, api.ErrRange)
		wants(good, away, n, 0, api.ErrRange)
		wants(good, beside(), 0, n, api.ErrRange)
		wants(good, beside(), n, n, api.ErrRange)
	}
	wants(good, beside(), 3, 0, api.ErrRange)
	wants(good, beside(), 0, 1, api.ErrRange)
	// The box lies in the raster, but the feature does not.
	wants(good, one([4]int{-1, 0, 1, 1}, [4]int{-2, 0, 1, 1}), 3, 0, api.ErrRange)
	for x := range 3 {
		wants(good, away, x, 0, api.ErrOutside)
	}
	pixels, words, code := descriptor.All(good, away)
	if len(pixels) != 0 || len(words) != 0 || code != api.OK {
		t.Errorf("All = %v, %x, %d", pixels, words, code)
	}
}

// P21.3: what All returns has memory of its own.
func TestAllShared(t *testing.T) {
	a := drawn(6, 6, 9, func(x, y int) int { return (x*x + y) % 10 })
	first, words, _ := descriptor.All(a, beside())
	again, same, code := descriptor.All(a, beside())
	for i := range first {
		first[i], words[i] = api.Pix{X: -1}, 77
	}
	if code != api.OK || len(again) != 30 || slices.Contains(again, api.Pix{X: -1}) || slices.Contains(same, 77) {
		t.Errorf("All = %v, %x, %d", again, same, code)
	}
}

// P21.7: a strictly rising table changes no word of a pattern of boxes with one pixel.
func TestRisingTable(t *testing.T) {
	different := 0
	some(100, func(r *rand.Rand) {
		a := greys(random(r), 40, func(g int) int { return g % 41 })
		table := []int{r.Intn(3)}
		for range 40 {
			table = append(table, table[len(table)-1]+1+pick(r, 0, 1, r.Intn(1500)))
		}
		b := greys(a, 65535, func(g int) int { return table[g] })
		p := randomPattern(r)
		for i := range p {
			p[i].A, p[i].B = randomBox(r, 3, 1), randomBox(r, 3, 1)
		}
		pixels, words, code := descriptor.All(a, p)
		after, others, codeAfter := descriptor.All(b, p)
		if code != api.OK || codeAfter != api.OK || !slices.Equal(pixels, after) || !slices.Equal(words, others) {
			t.Fatalf("All(%v, %v) = %x; with the table %v: %x", a, p, words, table, others)
		}
		for _, w := range words {
			if w != 0 {
				different++
			}
		}
	})
	if different < 1000 {
		t.Errorf("%d words are not 0", different)
	}
}

// P21.8: a number that is added to all grey values changes no word.
func TestAddedGrey(t *testing.T) {
	some(100, func(r *rand.Rand) {
		a, p := random(r), randomPattern(r)
		least, greatest := slices.Min(a.Pixels), slices.Max(a.Pixels)
		for _, n := range []int{-least, a.Max - greatest, r.Intn(a.Max-greatest+least+1) - least} {
			b := greys(a, a.Max, func(g int) int { return g + n })
			pixels, words, code := descriptor.All(a, p)
			after, others, codeAfter := descriptor.All(b, p)
			if code != api.OK || codeAfter != api.OK || !slices.Equal(pixels, after) || !slices.Equal(words, others) {
				t.Fatalf("All(%v, %v) = %x; with %d: %x", a, p, words, n, others)
			}
		}
	})
}
