package correlate_test

import (
	"math/big"
	"math/rand"
	"slices"
	"testing"

	"fiducial/api"
	"fiducial/correlate"
	"fiducial/fraction"
)

// example is the patch and the image of the chapter.
func example() (patch, image api.Raster) {
	return of(9, []int{1, 3}), of(9, []int{2, 4, 3})
}

// P23.1: the sums of the squares of all rectangles from the first pixel.
func TestSquares(t *testing.T) {
	some(300, func(r *rand.Rand) {
		a := random(r, size(r), size(r))
		before := copied(a)
		got, code := correlate.Squares(a)
		if code != api.OK || len(got) != a.Height+1 || !slices.Equal(a.Pixels, before.Pixels) {
			t.Fatalf("Squares(%v) = %v, %d", before, got, code)
		}
		for y, row := range got {
			for x := range row {
				want := 0
				for i, g := range a.Pixels {
					if i%a.Width < x && i/a.Width < y {
						want += g * g
					}
				}
				if len(row) != a.Width+1 || row[x] != want {
					t.Fatalf("Squares(%v) = %v, want %d at %d, %d", a, got, want, x, y)
				}
			}
		}
		for y := range got {
			// A row may be changed and go on without any other row.
			_ = append(got[y], -7)
			got[y][0] = -7
		}
		for y, row := range got {
			if row[0] != -7 || slices.Contains(row[1:], -7) {
				t.Fatalf("the row %d of Squares shares memory with another one", y)
			}
		}
	})
	if got, code := correlate.Squares(of(4, []int{2, 4, 3})); code != api.OK || !slices.Equal(slices.Concat(got...), []int{0, 0, 0, 0, 0, 4, 20, 29}) {
		t.Errorf("Squares = %v, %d", got, code)
	}
	got, code := correlate.Squares(drawn(64, 64, 65535, func(x, y int) int { return 65535 }))
	if code != api.OK || got[64][64] != 4096*65535*65535 || got[64][0] != 0 || got[0][64] != 0 {
		t.Errorf("Squares = %v, %d", got[64], code)
	}
	for _, a := range invalidRasters() {
		if got, code := correlate.Squares(a); len(got) != 0 || code != api.ErrArgument {
			t.Errorf("Squares(%v) = %v, %d", a, got, code)
		}
	}
}

// wantScore fails the test if Score does not return the score of a position.
func wantScore(t *testing.T, patch, image api.Raster, x, y int) *big.Rat {
	t.Helper()
	want := scoreOf(patch, image, x, y)
	if got, code := correlate.Score(patch, image, x, y); code != api.OK || texts(got) != textsOf(want) {
		t.Fatalf("Score(%v, %v, %d, %d) = %s, %d, want %s", patch, image, x, y, texts(got), code, textsOf(want))
	}
	return want
}

// P23.2, P23.3, P23.4: the scores of all positions, by their definition, and the greatest one; all are from -1 to 1.
func TestScores(t *testing.T) {
	one := big.NewRat(1, 1)
	ends, zeros, equal, signs := map[int]int{}, 0, 0, map[int]int{}
	some(900, func(r *rand.Rand) {
		patch, image := randomPair(r)
		beforePatch, beforeImage := copied(patch), copied(image)
		scores := scoresOf(patch, image)
		for i, s := range scores {
			columns := image.Width - patch.Width + 1
			wantScore(t, patch, image, i%columns, i/columns)
			if new(big.Rat).Abs(s).Cmp(one) > 0 {
				t.Fatalf("a score is %s", textsOf(s))
			}
			if s.IsInt() && s.Sign() != 0 {
				ends[s.Sign()]++
			} else {
				signs[s.Sign()]++
			}
			if s.Sign() == 0 {
				zeros++
			}
		}
		got, code := correlate.Map(patch, image)
		if wantCode := codeIf(len(scores) == 0); code != wantCode || texts(got...) != textsOf(scores...) {
			t.Fatalf("Map(%v, %v) = %s, %d, want %s", patch, image, texts(got...), code, textsOf(scores...))
		}
		equal += wantBest(t, patch, image, scores)
		if !slices.Equal(patch.Pixels, beforePatch.Pixels) || !slices.Equal(image.Pixels, beforeImage.Pixels) {
			t.Fatalf("Score, Map or Best of %v, %v has changed an argument", beforePatch, beforeImage)
		}
	})
	if ends[1] < 300 || ends[-1] < 300 || zeros < 1000 || signs[1] < 1000 || signs[-1] < 1000 || equal < 100 {
		t.Errorf("1 and -1: %v, 0: %d, between: %v, several are greatest: %d", ends, zeros, signs, equal)
	}
}

// codeIf is the code where something is missing, or is not.
func codeIf(isMissing bool) api.Code {
	if isMissing {
		return api.ErrMissing
	}
	return api.OK
}

// wantBest fails the test if Best does not return the first position with the greatest one of the scores. It returns 1 if there are several.
func wantBest(t *testing.T, patch, image api.Raster, scores []*big.Rat) int {
	t.Helper()
	x, y, score, code := correlate.Best(patch, image)
	if len(scores) == 0 {
		if x != 0 || y != 0 || !isZero(score) || code != api.ErrMissing {
			t.Fatalf("Best(%v, %v) = %d, %d, %v, %d", patch, image, x, y, score, code)
		}
		return 0
	}
	greatest := slices.MaxFunc(scores, func(a, b *big.Rat) int { return a.Cmp(b) })
	isGreatest := func(s *big.Rat) bool { return s.Cmp(greatest) == 0 }
	i, columns := slices.IndexFunc(scores, isGreatest), image.Width-patch.Width+1
	if x != i%columns || y != i/columns || texts(score) != textsOf(greatest) || code != api.OK {
		t.Fatalf("Best(%v, %v) = %d, %d, %s, %d, want %d, %d, %s", patch, image, x, y, texts(score), code, i%columns, i/columns, textsOf(greatest))
	}
	if slices.ContainsFunc(scores[i+1:], isGreatest) {
		return 1
	}
	return 0
}

// P23.2, P23.3: the example of the chapter.
func TestExample(t *testing.T) {
	patch, image := example()
	scores, code := correlate.Map(patch, image)
	if code != api.OK || texts(scores...) != "1 -1 " {
		t.Errorf("Map = %s, %d", texts(scores...), code)
	}
	x, y, score, code := correlate.Best(patch, image)
	if x != 0 || y != 0 || texts(score) != "1 " || code != api.OK {
		t.Errorf("Best = %d, %d, %s, %d", x, y, texts(score), code)
	}
}

// P23.2, P23.3: the greatest numbers that there are, and 0 where there is no variance.
func TestScoreGreat(t *testing.T) {
	great := drawn(64, 64, 65535, func(x, y int) int { return 65535 * (x + y&1) % 131070 })
	other := copied(great)
	other.Pixels[777] = 1 - min(other.Pixels[777], 1)
	inverse := drawn(64, 64, 65535, func(x, y int) int { return 65535 - pixel(great, x, y) })
	for _, image := range []api.Raster{great, other, inverse} {
		wantScore(t, great, image, 0, 0)
		wantScore(t, other, image, 0, 0)
		wantBest(t, great, image, scoresOf(great, image))
		wantBest(t, part(other, 5, 4, 57, 60), image, scoresOf(part(other, 5, 4, 57, 60), image))
	}
	flat := drawn(64, 64, 65535, func(x, y int) int { return 65535 })
	for _, pair := range [][2]api.Raster{{flat, great}, {great, flat}, {flat, flat}} {
		if score := wantScore(t, pair[0], pair[1], 0, 0); score.Sign() != 0 {
			t.Errorf("the score is %s", textsOf(score))
		}
	}
	// A patch with one pixel has no variance, and the first position is the best one.
	wantBest(t, of(9, []int{5}), great, scoresOf(of(9, []int{5}), great))
	if scores, code := correlate.Map(of(9, []int{5}), great); code != api.OK || len(scores) != 4096 {
		t.Errorf("Map: %d, %d", len(scores), code)
	}
}

// P23.2, P23.3: rasters, the patch before the image, then positions.
func TestScoreInvalid(t *testing.T) {
	patch, image := example()
	wants := func(patch, image api.Raster, x, y int, want api.Code) {
		t.Helper()
		if score, code := correlate.Score(patch, image, x, y); !isZero(score) || code != want {
			t.Errorf("Score(%v, %v, %d, %d) = %v, %d, want %d", patch, image, x, y, score, code, want)
		}
	}
	for _, a := range invalidRasters() {
		for _, pair := range [][2]api.Raster{{a, image}, {patch, a}, {a, a}} {
			wants(pair[0], pair[1], 0, 0, api.ErrArgument)
			wants(pair[0], pair[1], -1, 99, api.ErrArgument)
			if scores, code := correlate.Map(pair[0], pair[1]); len(scores) != 0 || code != api.ErrArgument {
				t.Errorf("Map(%v) = %v, %d", pair, scores, code)
			}
			if x, y, score, code := correlate.Best(pair[0], pair[1]); x != 0 || y != 0 || !isZero(score) || code != api.ErrArgument {
				t.Errorf("Best(%v) = %d, %d, %v, %d", pair, x, y, score, code)
			}
		}
	}
	for _, n := range append(far(), -1, 2, 3, 64) {
		wants(patch, image, n, 0, api.ErrOutside)
		wants(patch, image, 0, n, api.ErrOutside)
		wants(patch, image, n, n, api.ErrOutside)
	}
	wants(patch, image, 0, 1, api.ErrOutside)
	for _, great := range []api.Raster{of(9, []int{1, 2, 3, 4}), of(9, []int{1}, []int{2}), drawn(64, 64, 9, func(x, y int) int { return x % 9 })} {
		wants(great, image, 0, 0, api.ErrOutside)
		wants(great, image, -1, 0, api.ErrOutside)
		if scores, code := correlate.Map(great, image); len(scores) != 0 || code != api.ErrMissing {
			t.Errorf("Map(%v) = %v, %d", great, scores, code)
		}
		wantBest(t, great, image, nil)
	}
}

// P23.4, P23.9: a part of an image that has variance has the score 1 with itself, and this is the best score.
func TestPart(t *testing.T) {
	flat := 0
	some(500, func(r *rand.Rand) {
		image := random(r, 1+size(r), 1+size(r))
		width, height := 1+r.Intn(image.Width), 1+r.Intn(image.Height)
		x, y := r.Intn(image.Width-width+1), r.Intn(image.Height-height+1)
		patch := part(image, x, y, width, height)
		want := "1 "
		if slices.Max(patch.Pixels) == slices.Min(patch.Pixels) {
			want = "0 "
			flat++
		}
		score, code := correlate.Score(patch, image, x, y)
		_, _, best, codeBest := correlate.Best(patch, image)
		if code != api.OK || codeBest != api.OK || texts(score, best) != want+want {
			t.Fatalf("Score and Best of (%v, %v, %d, %d) = %s, want %s", patch, image, x, y, texts(score, best), want)
		}
	})
	if flat < 20 {
		t.Errorf("%d patches have no variance", flat)
	}
}

// P23.5: brightness and contrast change no score; a negative factor changes its sign.
func TestScoreOfGreys(t *testing.T) {
	some(400, func(r *rand.Rand) {
		patch, image := randomPair(r)
		scores, code := correlate.Map(patch, image)
		if code == api.ErrMissing {
			return
		}
		change := func(p, q int) api.Raster {
			return drawn(image.Width, image.Height, 65535, func(x, y int) int { return p*pixel(image, x, y) + q })
		}
		p := 1 + r.Intn(65535/image.Max)
		q := r.Intn(65535 - p*image.Max + 1)
		same, codeSame := correlate.Map(patch, change(p, q))
		inverse, codeInverse := correlate.Map(patch, change(-p, p*image.Max+q))
		for i := range inverse {
			inverse[i] = fraction.Neg(inverse[i])
		}
		if code != api.OK || codeSame != api.OK || codeInverse != api.OK || texts(same...) != texts(scores...) || texts(inverse...) != texts(scores...) {
			t.Fatalf("Map(%v, %v) = %s; with %d and %d: %s, and %s", patch, image, texts(scores...), p, q, texts(same...), texts(inverse...))
		}
	})
}

// P23.6: patch and window may be exchanged.
func TestExchange(t *testing.T) {
	some(500, func(r *rand.Rand) {
		width, height := size(r), size(r)
		a, b := random(r, width, height), random(r, width, height)
		if r.Intn(3) == 0 {
			b = copied(a)
			b.Pixels[r.Intn(len(b.Pixels))] = r.Intn(b.Max + 1)
		}
		score, code := correlate.Score(a, b, 0, 0)
		other, codeOther := correlate.Score(b, a, 0, 0)
		if code != api.OK || codeOther != api.OK || texts(score) != texts(other) {
			t.Fatalf("Score(%v, %v) = %s, exchanged %s", a, b, texts(score), texts(other))
		}
	})
}
