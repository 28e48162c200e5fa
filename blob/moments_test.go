package blob_test

import (
	"math/big"
	"math/rand"
	"slices"
	"testing"

	"fiducial/api"
	"fiducial/blob"
	"fiducial/fraction"
)

// P24.3: valid are the blobs whose numbers are in their ranges.
func TestCheck(t *testing.T) {
	for _, b := range invalidBlobs() {
		if code := blob.Check(b); code != api.ErrArgument || isValid(b) {
			t.Errorf("Check(%v) = %d, valid %t", b, code, isValid(b))
		}
	}
	counts := map[bool]int{}
	some(30000, func(r *rand.Rand) {
		b := randomBlob(r)
		if code := blob.Check(b); code != api.OK || !isValid(b) {
			t.Fatalf("Check(%v) = %d", b, code)
		}
		for range 1 + r.Intn(2) {
			n := pick(r, fields(&b)...)
			*n = pick(r, *n-1, *n+1, *n-1, *n+1, 0, -*n, r.Intn(64), r.Intn(5000), pick(r, far()...))
		}
		want := api.ErrArgument
		if isValid(b) {
			want = api.OK
		}
		if code := blob.Check(b); code != want {
			t.Fatalf("Check(%v) = %d, want %d", b, code, want)
		}
		counts[isValid(b)]++
	})
	if counts[true] < 3000 || counts[false] < 3000 {
		t.Errorf("valid or not: %v", counts)
	}
}

// P24.3: a blob is valid with each number at the ends of its range, just outside it is not.
func TestCheckEnds(t *testing.T) {
	base := api.Blob{Area: 4, Left: 2, Top: 3, Right: 5, Bottom: 6, SumX: 12, SumY: 16, SumXX: 40, SumXY: 50, SumYY: 70, Mass: 10, MassX: 30, MassY: 40}
	for k, ends := range [][2]int{{3, 5}, {0, 3}, {0, 4}, {3, 63}, {4, 63}, {8, 20}, {12, 24}, {0, 15876}, {0, 15876}, {0, 15876}, {7, 13}, {20, 50}, {30, 60}} {
		for n := ends[0] - 1; n <= ends[1]+1; n++ {
			b := base
			*fields(&b)[k] = n
			want := api.OK
			if n < ends[0] || n > ends[1] {
				want = api.ErrArgument
			}
			if code := blob.Check(b); code != want {
				t.Fatalf("Check(%v) = %d, want %d", b, code, want)
			}
		}
	}
	// Without mass, and with all that there can be.
	for _, b := range []api.Blob{
		{Area: 1},
		{Area: 4, Left: 2, Right: 2, Bottom: 63, SumX: 8},
		{Area: 4096, Left: 63, Top: 63, Right: 63, Bottom: 63, SumX: 4096 * 63, SumY: 4096 * 63, SumXX: 4096 * 3969, SumXY: 4096 * 3969, SumYY: 4096 * 3969, Mass: 4096 * 65535, MassX: 4096 * 65535 * 63, MassY: 4096 * 65535 * 63},
	} {
		if code := blob.Check(b); code != api.OK {
			t.Errorf("Check(%v) = %d", b, code)
		}
	}
}

// P24.3, P24.4: Merge adds sums and joins boxes; for all blobs whose areas together are at most 4096, in any order.
func TestMerge(t *testing.T) {
	codes := map[api.Code]int{}
	some(20000, func(r *rand.Rand) {
		a, b, c := randomBlob(r), randomBlob(r), randomBlob(r)
		var want api.Blob
		for k, n := range fields(&want) {
			*n = *fields(&a)[k] + *fields(&b)[k]
		}
		want.Left, want.Top, want.Right, want.Bottom = min(a.Left, b.Left), min(a.Top, b.Top), max(a.Right, b.Right), max(a.Bottom, b.Bottom)
		wantCode := api.OK
		if a.Area+b.Area > 4096 {
			want, wantCode = api.Blob{}, api.ErrLimit
		}
		both, code := blob.Merge(a, b)
		if other, otherCode := blob.Merge(b, a); code != wantCode || both != want || otherCode != wantCode || other != want {
			t.Fatalf("Merge(%v, %v) = %v, %d, want %v, %d; exchanged %v, %d", a, b, both, code, want, wantCode, other, otherCode)
		}
		codes[code]++
		if code != api.OK {
			return
		}
		if blob.Check(both) != api.OK {
			t.Fatalf("Merge(%v, %v) = %v is not valid", a, b, both)
		}
		left, leftCode := blob.Merge(both, c)
		rest, code := blob.Merge(b, c)
		if code != api.OK {
			return
		}
		if right, code := blob.Merge(a, rest); code != leftCode || left != right {
			t.Fatalf("Merge of %v, %v and %v = %v, %d or %v, %d", a, b, c, left, leftCode, right, code)
		}
	})
	if codes[api.OK] < 1000 || codes[api.ErrLimit] < 1000 {
		t.Errorf("numbers of codes: %v", codes)
	}
}

// P24.3: the areas together may be 4096; no valid blob comes before too great areas.
func TestMergeInvalid(t *testing.T) {
	of := func(area int) api.Blob { return api.Blob{Area: area} }
	for _, c := range []struct {
		a, b int
		want api.Code
	}{{4095, 1, api.OK}, {2048, 2048, api.OK}, {4096, 1, api.ErrLimit}, {1, 4096, api.ErrLimit}, {2049, 2048, api.ErrLimit}, {4096, 4096, api.ErrLimit}, {4097, 1, api.ErrArgument}, {0, 4096, api.ErrArgument}, {4096, 0, api.ErrArgument}} {
		got, code := blob.Merge(of(c.a), of(c.b))
		want := api.Blob{}
		if c.want == api.OK {
			want = of(c.a + c.b)
		}
		if code != c.want || got != want {
			t.Errorf("Merge of the areas %d and %d = %v, %d", c.a, c.b, got, code)
		}
	}
	for _, b := range invalidBlobs() {
		for _, good := range []api.Blob{of(1), of(4096)} {
			got, code := blob.Merge(good, b)
			if other, otherCode := blob.Merge(b, good); code != api.ErrArgument || otherCode != api.ErrArgument || got != (api.Blob{}) || other != (api.Blob{}) {
				t.Errorf("Merge(%v, %v) = %v, %d; exchanged %v, %d", good, b, got, code, other, otherCode)
			}
		}
		if got, code := blob.Merge(b, b); code != api.ErrArgument || got != (api.Blob{}) {
			t.Errorf("Merge(%v, %v) = %v, %d", b, b, got, code)
		}
	}
}

// P24.4: the blobs of all regions, merged in any order, are that of the foreground.
func TestMergeRegions(t *testing.T) {
	lengths := map[int]int{}
	some(2000, func(r *rand.Rand) {
		a, threshold := random(r)
		l, _ := blob.Blobs(a, threshold)
		want, ok := blobOf(a, func(i int) bool { return a.Pixels[i] >= threshold })
		if ok != (len(l) > 0) {
			t.Fatalf("Blobs(%v, %d) = %v", a, threshold, l)
		}
		lengths[min(len(l), 5)]++
		for len(l) > 1 {
			i := r.Intn(len(l))
			b := l[i]
			l = slices.Delete(slices.Clone(l), i, i+1)
			j := r.Intn(len(l))
			merged, code := blob.Merge(l[j], b)
			if code != api.OK {
				t.Fatalf("Merge(%v, %v): %d", l[j], b, code)
			}
			l[j] = merged
		}
		if ok && l[0] != want {
			t.Fatalf("%v with %d merged: %v, want %v", a, threshold, l[0], want)
		}
	})
	if lengths[0] < 20 || lengths[1] < 100 || lengths[5] < 200 {
		t.Errorf("numbers of regions: %v", lengths)
	}
}

// momentsOf are the central second moments.
func momentsOf(b api.Blob) (xx, xy, yy *big.Rat) {
	mean := func(sum int) *big.Rat { return quo(rat(sum), rat(b.Area)) }
	x, y := mean(b.SumX), mean(b.SumY)
	return sub(mean(b.SumXX), mul(x, x)), sub(mean(b.SumXY), mul(x, y)), sub(mean(b.SumYY), mul(y, y))
}

// isRound reports what Round is defined to report.
func isRound(b api.Blob, num, den int) bool {
	xx, xy, yy := momentsOf(b)
	d, s, part := sub(xx, yy), add(xx, yy), quo(rat(num), rat(den))
	return add(mul(d, d), mul(rat(4), mul(xy, xy))).Cmp(mul(mul(part, part), mul(s, s))) <= 0
}

// wantMoments fails the test if Center, Inertia and Round do not return for a valid blob what they are defined to return.
func wantMoments(t *testing.T, b api.Blob, num, den int) (round bool) {
	t.Helper()
	p, code := blob.Center(b)
	if b.Mass == 0 {
		if code != api.ErrDegenerate || !isZero(p.X, p.Y) {
			t.Fatalf("Center(%v) = %s, %d", b, text(p.X, p.Y), code)
		}
	} else {
		half := big.NewRat(1, 2)
		want := bigText(add(quo(rat(b.MassX), rat(b.Mass)), half), add(quo(rat(b.MassY), rat(b.Mass)), half))
		if code != api.OK || text(p.X, p.Y) != want {
			t.Fatalf("Center(%v) = %s, %d, want %s", b, text(p.X, p.Y), code, want)
		}
	}
	xx, xy, yy, code := blob.Inertia(b)
	if want := bigText(momentsOf(b)); code != api.OK || text(xx, xy, yy) != want {
		t.Fatalf("Inertia(%v) = %s, %d, want %s", b, text(xx, xy, yy), code, want)
	}
	round, code = blob.Round(b, num, den)
	if want := isRound(b, num, den); code != api.OK || round != want {
		t.Fatalf("Round(%v, %d, %d) = %t, %d, want %t", b, num, den, round, code, want)
	}
	return round
}

// P24.3: Center, Inertia and Round, for blobs of regions and for other valid ones.
func TestMoments(t *testing.T) {
	counts, round := map[bool]int{}, map[bool]int{}
	check := func(r *rand.Rand, b api.Blob) {
		den := pick(r, 1, 2, 1000, 1+r.Intn(1000))
		num := pick(r, 0, 1, 1000, r.Intn(den+1), r.Intn(den+1), r.Intn(den+1))
		round[wantMoments(t, b, num, den)]++
		counts[b.Mass == 0]++
	}
	some(10000, func(r *rand.Rand) { check(r, randomBlob(r)) })
	some(3000, func(r *rand.Rand) { check(r, regionBlob(r)) })
	if counts[true] < 500 || round[true] < 1000 || round[false] < 1000 {
		t.Errorf("without mass or with it: %v, round or not: %v", counts, round)
	}
}

// P24.3: the central moments of a region are the means of the squares and products of the distances from the mean.
func TestMomentsOfPixels(t *testing.T) {
	some(700, func(r *rand.Rand) {
		a, threshold := random(r)
		labels, _ := labelsOf(a, threshold)
		l, _ := blob.Blobs(a, threshold)
		if len(l) == 0 {
			return
		}
		n := r.Intn(len(l))
		mean := func(value func(x, y int) *big.Rat) *big.Rat {
			sum, count := rat(0), 0
			for i, label := range labels {
				if label == n {
					sum, count = add(sum, value(i%a.Width, i/a.Width)), count+1
				}
			}
			return quo(sum, rat(count))
		}
		mx, my := mean(func(x, y int) *big.Rat { return rat(x) }), mean(func(x, y int) *big.Rat { return rat(y) })
		product := func(ofX, ofY int) *big.Rat {
			return mean(func(x, y int) *big.Rat {
				p := rat(1)
				for range ofX {
					p = mul(p, sub(rat(x), mx))
				}
				for range ofY {
					p = mul(p, sub(rat(y), my))
				}
				return p
			})
		}
		xx, xy, yy, code := blob.Inertia(l[n])
		if want := bigText(product(2, 0), product(1, 1), product(0, 2)); code != api.OK || text(xx, xy, yy) != want {
			t.Fatalf("Inertia(%v) = %s, %d, want %s", l[n], text(xx, xy, yy), code, want)
		}
	})
}

// P24.3: the example of the chapter, and rectangles: Round at the part itself, and just below it.
func TestRound(t *testing.T) {
	b := api.Blob{Area: 3, Right: 1, Bottom: 1, SumX: 2, SumY: 1, SumXX: 2, SumXY: 1, SumYY: 1, Mass: 27, MassX: 18, MassY: 9}
	p, code := blob.Center(b)
	xx, xy, yy, other := blob.Inertia(b)
	if code != api.OK || other != api.OK || text(p.X, p.Y, xx, xy, yy) != "7/6 5/6 2/9 1/9 2/9" {
		t.Errorf("the example has %s, %d, %d", text(p.X, p.Y, xx, xy, yy), code, other)
	}
	for _, c := range []struct {
		rows     string
		num, den int
		want     bool
	}{
		{"x", 0, 1, true},
		{"xx", 1, 1, true}, {"xx", 999, 1000, false}, {"xx", 1000, 1, true}, {"xx", 0, 1, false}, {"x/x", 1, 1, true}, {"x/x", 998, 999, false},
		{"xxx/xxx/xxx", 0, 1000, true},
		{"xxxxx/xxxxx/xxxxx", 1, 2, true}, {"xxxxx/xxxxx/xxxxx", 500, 1000, true}, {"xxxxx/xxxxx/xxxxx", 499, 1000, false}, {"xxxxx/xxxxx/xxxxx", 1, 3, false},
		// The diagonal moment counts four times.
		{"xx./.xx", 1, 1, true}, {"xx/.x", 1, 2, true}, {"xx/.x", 499, 999, false}, {"xx/x.", 1, 2, true}, {"xx/x.", 499, 999, false},
		{".x./xxx/.x.", 0, 1, true},
	} {
		l, _ := blob.Blobs(sketched(c.rows), 1)
		if got, code := blob.Round(l[0], c.num, c.den); code != api.OK || got != c.want {
			t.Errorf("Round of %s, %d, %d = %t, %d", c.rows, c.num, c.den, got, code)
		}
	}
}

// P24.3: blobs that are not valid come first, then num and den outside their ranges.
func TestMomentsInvalid(t *testing.T) {
	outside := [][2]int{{-1, 1}, {1001, 1}, {0, 0}, {0, -1}, {0, 1001}, {-1, 0}, {1001, 1001}}
	for _, n := range far() {
		outside = append(outside, [2]int{n, 1}, [2]int{1, n}, [2]int{n, n})
	}
	for _, b := range append(invalidBlobs(), api.Blob{Area: 5000}) {
		p, code := blob.Center(b)
		if code != api.ErrArgument || !isZero(p.X, p.Y) {
			t.Errorf("Center(%v) = %v, %d", b, p, code)
		}
		xx, xy, yy, code := blob.Inertia(b)
		if code != api.ErrArgument || !isZero(xx, xy, yy) {
			t.Errorf("Inertia(%v) = %v, %v, %v, %d", b, xx, xy, yy, code)
		}
		for _, c := range append(outside, [2]int{1, 2}) {
			if got, code := blob.Round(b, c[0], c[1]); code != api.ErrArgument || got {
				t.Errorf("Round(%v, %d, %d) = %t, %d", b, c[0], c[1], got, code)
			}
		}
	}
	for _, c := range outside {
		if got, code := blob.Round(api.Blob{Area: 1}, c[0], c[1]); code != api.ErrRange || got {
			t.Errorf("Round with %d, %d = %t, %d", c[0], c[1], got, code)
		}
	}
	for _, c := range [][2]int{{0, 1}, {0, 1000}, {1000, 1}, {1000, 1000}} {
		if got, code := blob.Round(api.Blob{Area: 1}, c[0], c[1]); code != api.OK || !got {
			t.Errorf("Round with %d, %d = %t, %d", c[0], c[1], got, code)
		}
	}
}

// P24.7: a region that is shifted within the raster: its centre is shifted, its central moments stay as they are.
func TestShifted(t *testing.T) {
	moved := 0
	some(1500, func(r *rand.Rand) {
		a, threshold := random(r)
		threshold = max(threshold, 1)
		dx, dy := r.Intn(64-a.Width+1), r.Intn(64-a.Height+1)
		wide := drawn(a.Width+dx+r.Intn(64-a.Width-dx+1), a.Height+dy+r.Intn(64-a.Height-dy+1), a.Max, func(x, y int) int {
			if x < dx || y < dy || x >= dx+a.Width || y >= dy+a.Height {
				return 0
			}
			return pixel(a, x-dx, y-dy)
		})
		before, _ := blob.Blobs(a, threshold)
		after, code := blob.Blobs(wide, threshold)
		if code != api.OK || len(after) != len(before) {
			t.Fatalf("%v and %v with %d: %v and %v", a, wide, threshold, before, after)
		}
		for k, b := range before {
			c := after[k]
			p, pCode := blob.Center(b)
			q, qCode := blob.Center(c)
			p.X, p.Y = fraction.Add(p.X, fraction.Whole(dx)), fraction.Add(p.Y, fraction.Whole(dy))
			if pCode != api.OK || qCode != api.OK || text(p.X, p.Y) != text(q.X, q.Y) {
				t.Fatalf("the centre of %v is shifted to %s by %d, %d", b, text(q.X, q.Y), dx, dy)
			}
			xx, xy, yy, _ := blob.Inertia(b)
			xx2, xy2, yy2, _ := blob.Inertia(c)
			if text(xx, xy, yy) != text(xx2, xy2, yy2) {
				t.Fatalf("the moments of %v are %s, shifted %s", b, text(xx, xy, yy), text(xx2, xy2, yy2))
			}
			if dx > 0 && dy > 0 {
				moved++
			}
		}
	})
	if moved < 1000 {
		t.Errorf("%d regions are shifted", moved)
	}
}

// P24.7: rows and columns exchanged; the regions may come in another order.
func TestExchanged(t *testing.T) {
	some(1500, func(r *rand.Rand) {
		a, threshold := random(r)
		before, _ := blob.Blobs(a, threshold)
		after, code := blob.Blobs(exchanged(a), threshold)
		if code != api.OK || len(after) != len(before) {
			t.Fatalf("%v with %d: %v and %v", a, threshold, before, after)
		}
		for _, b := range before {
			c := api.Blob{Area: b.Area, Left: b.Top, Top: b.Left, Right: b.Bottom, Bottom: b.Right, SumX: b.SumY, SumY: b.SumX, SumXX: b.SumYY, SumXY: b.SumXY, SumYY: b.SumXX, Mass: b.Mass, MassX: b.MassY, MassY: b.MassX}
			if !slices.Contains(after, c) {
				t.Fatalf("%v is not among %v", c, after)
			}
			p, pCode := blob.Center(b)
			q, qCode := blob.Center(c)
			xx, xy, yy, _ := blob.Inertia(b)
			xx2, xy2, yy2, _ := blob.Inertia(c)
			if pCode != qCode || text(p.X, p.Y) != text(q.Y, q.X) || text(xx, xy, yy) != text(yy2, xy2, xx2) {
				t.Fatalf("%v and %v: centres %s and %s, moments %s and %s", b, c, text(p.X, p.Y), text(q.X, q.Y), text(xx, xy, yy), text(xx2, xy2, yy2))
			}
			num, den := r.Intn(1001), 1+r.Intn(1000)
			one, _ := blob.Round(b, num, den)
			if other, _ := blob.Round(c, num, den); one != other {
				t.Fatalf("Round of %v and %v: %t and %t", b, c, one, other)
			}
		}
		h, _ := blob.Holes(a, threshold)
		if n, code := blob.Holes(exchanged(a), threshold); code != api.OK || n != h {
			t.Fatalf("Holes of %v: %d, exchanged %d", a, h, n)
		}
	})
}
