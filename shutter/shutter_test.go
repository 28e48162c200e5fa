package shutter_test

import (
	"math/big"
	"math/rand"
	"slices"
	"testing"

	"fiducial/api"
	"fiducial/fraction"
	"fiducial/shutter"
)

// checkRows fails the test if Check does not answer as the definition says; it returns the answer for 64 rows.
func checkRows(t *testing.T, s api.Shutter) api.Code {
	t.Helper()
	good := 0
	for good < 64 && !stateOf(s, good).turn.isNull() {
		good++
	}
	for _, rows := range []int{1, good - 1, good, good + 1, 63, 64} {
		want := api.OK
		if rows > good {
			want = api.ErrDegenerate
		}
		if got := shutter.Check(s, rows); rows >= 1 && rows <= 64 && got != want {
			t.Fatalf("Check(%v, %d) = %d, want %d", s, rows, got, want)
		}
	}
	return shutter.Check(s, 64)
}

// P19.1: a shutter is degenerate for the rows from the first one on whose rotation is zero.
func TestCheck(t *testing.T) {
	codes := map[api.Code]int{}
	some(1000, func(r *rand.Rand) { codes[checkRows(t, pick(r, moving(r), stopped(r, r.Intn(64))))]++ })
	if codes[api.OK] < 300 || codes[api.ErrDegenerate] < 300 {
		t.Errorf("numbers of codes: %v", codes)
	}
	// Opposite quaternions, whose mixture is zero in the middle, at each row, between rows, before and behind all rows.
	for middle := -5; middle < 650; middle++ {
		s := api.Shutter{Step: 10, A: api.Epoch{Time: middle - 20, Turn: quat(1, -2, 3, 4)}, B: api.Epoch{Time: middle + 20, Turn: quat(-1, 2, -3, -4)}}
		want := api.OK
		if middle >= 0 && middle <= 630 && middle%10 == 0 {
			want = api.ErrDegenerate
		}
		if code := checkRows(t, s); code != want {
			t.Fatalf("Check(%v, 64) = %d", s, code)
		}
		// The same quaternion twice, once with a factor: zero outside of the two epochs.
		s.A, s.B = api.Epoch{Time: middle - 40, Turn: quat(6, 0, 2, 0)}, api.Epoch{Time: middle - 20, Turn: quat(3, 0, 1, 0)}
		if code := checkRows(t, s); code != want {
			t.Fatalf("Check(%v, 64) = %d", s, code)
		}
	}
}

// entries are pointers to the numbers of a shutter, with the greatest magnitude of each.
func entries(s *api.Shutter) map[*int]int {
	m := map[*int]int{&s.First: maxTime, &s.Step: maxTime}
	for _, e := range []*api.Epoch{&s.A, &s.B} {
		m[&e.Time] = maxTime
		for _, p := range []*int{&e.At.X, &e.At.Y, &e.At.Z} {
			m[p] = maxCoord
		}
		for _, p := range []*int{&e.Turn.A, &e.Turn.B, &e.Turn.C, &e.Turn.D} {
			m[p] = maxPart
		}
	}
	return m
}

// P19.1: each number may be at the ends of its range, and not beyond.
func TestCheckRange(t *testing.T) {
	s := example().s
	s.A.Turn, s.B.Turn = quat(1, 2, 3, 4), quat(1, 3, 2, 5)
	if shutter.Check(s, 64) != api.OK || shutter.Check(s, 1) != api.OK {
		t.Fatalf("Check(%v, 64)", s)
	}
	for _, rows := range append(far(), 0, -1, 65) {
		if code := shutter.Check(s, rows); code != api.ErrRange {
			t.Errorf("Check for %d rows: %d", rows, code)
		}
	}
	list := entries(&s)
	if len(list) != 18 {
		t.Fatalf("%d numbers", len(list))
	}
	for p, most := range list {
		before := *p
		for _, n := range append(far(), most+1, -most-1) {
			*p = n
			if code := shutter.Check(s, 1); code != api.ErrRange {
				t.Errorf("Check(%v, 1) = %d", s, code)
			}
		}
		for _, n := range []int{most, -most} {
			*p = n
			want := api.OK
			if s.A.Time >= s.B.Time {
				want = api.ErrArgument
			}
			if code := shutter.Check(s, 64); code != want {
				t.Errorf("Check(%v, 64) = %d, want %d", s, code, want)
			}
		}
		*p = before
	}
}

// P19.1: quaternions that are zero, and epochs that are not one after the other.
func TestCheckArgument(t *testing.T) {
	for _, change := range []func(s *api.Shutter){
		func(s *api.Shutter) { s.A.Turn = api.Quat{} },
		func(s *api.Shutter) { s.B.Turn = api.Quat{} },
		func(s *api.Shutter) { s.A.Turn, s.B.Turn = api.Quat{}, api.Quat{} },
		func(s *api.Shutter) { s.B.Time = s.A.Time },
		func(s *api.Shutter) { s.B.Time = s.A.Time - 1 },
		func(s *api.Shutter) { s.A.Time, s.B.Time = maxTime, -maxTime },
	} {
		s := example().s
		change(&s)
		if code := shutter.Check(s, 64); code != api.ErrArgument {
			t.Errorf("Check(%v, 64) = %d", s, code)
		}
		s.First = maxTime + 1
		if code := shutter.Check(s, 64); code != api.ErrRange {
			t.Errorf("Check(%v, 64) = %d", s, code)
		}
	}
	// Each part alone makes a quaternion that is not zero.
	for _, q := range []api.Quat{quat(1, 0, 0, 0), quat(0, -1, 0, 0), quat(0, 0, 1, 0), quat(0, 0, 0, -1)} {
		s := example().s
		s.A.Turn, s.B.Turn = q, q
		if code := shutter.Check(s, 64); code != api.OK {
			t.Errorf("Check(%v, 64) = %d", s, code)
		}
	}
}

// P19.2: time, position and rotation of each row, by their definitions.
func TestPose(t *testing.T) {
	codes := map[api.Code]int{}
	some(1500, func(r *rand.Rand) {
		row := pick(r, 0, 63, r.Intn(64))
		s := pick(r, moving(r), moving(r), stopped(r, row))
		if checkOf(s, 1) != api.OK {
			return
		}
		when, code := shutter.Time(s, row)
		if code != api.OK || rat(when).Cmp(timeOf(s, row)) != 0 {
			t.Fatalf("Time(%v, %d) = %d, %d", s, row, when, code)
		}
		at, turn, code := shutter.Pose(s, row)
		codes[code]++
		want := stateOf(s, row)
		if want.turn.isNull() {
			if code != api.ErrDegenerate || !isZero(at[:]...) || turn != (api.Quat{}) {
				t.Fatalf("Pose(%v, %d) = %v, %v, %d", s, row, at, turn, code)
			}
			return
		}
		for i, x := range at {
			if code != api.OK || !fraction.Valid(x) || bigOf(x).Cmp(want.at[i+1]) != 0 {
				t.Fatalf("Pose(%v, %d) = %s, %v, %d", s, row, text(at[:]...), turn, code)
			}
		}
		for i, z := range ofQuat(turn) {
			if z.Cmp(want.turn[i]) != 0 {
				t.Fatalf("Pose(%v, %d) = %s, %v, %d", s, row, text(at[:]...), turn, code)
			}
		}
	})
	if codes[api.OK] < 500 || codes[api.ErrDegenerate] < 200 {
		t.Errorf("numbers of codes: %v", codes)
	}
}

// P19.2: the poses at the epochs are those of the epochs, up to a common divisor; signs are kept.
func TestPoseAtEpochs(t *testing.T) {
	s := api.Shutter{First: -7, Step: 5, A: api.Epoch{Time: -7, At: api.Spot{X: 1, Y: -2, Z: 3}, Turn: quat(-6, 4, 0, -2)}, B: api.Epoch{Time: 8, At: api.Spot{X: 4, Y: 7, Z: -8}, Turn: quat(0, -3, -9, 12)}}
	for _, c := range []struct {
		row  int
		at   string
		turn api.Quat
	}{
		{0, "1 -2 3", quat(-3, 2, 0, -1)},
		{1, "2 1 -2/3", quat(-12, 5, -9, 8)},
		{2, "3 4 -13/3", quat(-3, -1, -9, 11)},
		{3, "4 7 -8", quat(0, -1, -3, 4)},
		{4, "5 10 -35/3", quat(3, -8, -18, 25)},
	} {
		at, turn, code := shutter.Pose(s, c.row)
		if code != api.OK || text(at[:]...) != c.at || turn != c.turn {
			t.Errorf("Pose(%d) = %s, %v, %d", c.row, text(at[:]...), turn, code)
		}
	}
	// As far beyond the epochs as it goes, with the greatest parts.
	s = api.Shutter{First: maxTime, Step: maxTime, A: api.Epoch{Time: -maxTime, At: api.Spot{X: maxCoord}, Turn: quat(maxPart, 0, 1, maxPart-1)}, B: api.Epoch{Time: 1 - maxTime, At: api.Spot{X: -maxCoord}, Turn: quat(-maxPart, 1, 0, -maxPart)}}
	at, turn, code := shutter.Pose(s, 63)
	if k := 65 * maxTime; code != api.OK || text(at[:]...) != fraction.Text(fraction.Whole(maxCoord-k*2*maxCoord))+" 0 0" || turn != quat((1-2*k)*maxPart, k, 1-k, (1-k)*(maxPart-1)-k*maxPart) {
		t.Errorf("Pose = %s, %v, %d", text(at[:]...), turn, code)
	}
}

// P19.2: the steps from row to row are equal.
func TestPoseAffine(t *testing.T) {
	some(300, func(r *rand.Rand) {
		s := moving(r)
		if checkOf(s, 64) != api.OK {
			return
		}
		first, _, _ := shutter.Pose(s, 0)
		second, _, _ := shutter.Pose(s, 1)
		row := 1 + r.Intn(63)
		at, _, code := shutter.Pose(s, row)
		for i, x := range at {
			want := add(bigOf(first[i]), mul(rat(row), sub(bigOf(second[i]), bigOf(first[i]))))
			if code != api.OK || bigOf(x).Cmp(want) != 0 {
				t.Fatalf("Pose(%v, %d) = %s, %d", s, row, text(at[:]...), code)
			}
		}
	})
}

// P19.2: a row whose rotation is zero has a time, and no pose.
func TestTimeOfZero(t *testing.T) {
	s := example().s
	s.A.Turn, s.B.Turn, s.A.Time, s.B.Time = quat(0, 1, 0, 0), quat(0, -1, 0, 0), -30, 70
	if when, code := shutter.Time(s, 2); code != api.OK || when != 20 {
		t.Errorf("Time = %d, %d", when, code)
	}
	at, turn, code := shutter.Pose(s, 2)
	if code != api.ErrDegenerate || !isZero(at[:]...) || turn != (api.Quat{}) {
		t.Errorf("Pose = %v, %v, %d", at, turn, code)
	}
}

// P19.3: the point of the ground and its image, by their definitions.
func TestGroundAndImage(t *testing.T) {
	grounds, images := map[api.Code]int{}, map[api.Code]int{}
	some(3000, func(r *rand.Rand) {
		n := anyCall(r)
		if checkOf(n.s, 1) != api.OK {
			return
		}
		got, code := shutter.Ground(n.s, n.c, n.at, n.height)
		want, wantCode := groundOf(n.s, n.c, n.at, n.height)
		if code != wantCode || placeText(got) != placeText(want) {
			t.Fatalf("Ground(%v, %v, %v, %d) = %s, %d, want %s, %d", n.s, n.c, n.at, n.height, placeText(got), code, placeText(want), wantCode)
		}
		grounds[code]++
		before := placeText(n.ground)
		got, code = shutter.Image(n.s, n.c, n.row, n.ground, n.height)
		want, wantCode = imageOf(n.s, n.c, n.row, n.ground, n.height)
		if code != wantCode || placeText(got) != placeText(want) || placeText(n.ground) != before {
			t.Fatalf("Image(%v, %v, %d, %s, %d) = %s, %d, want %s, %d", n.s, n.c, n.row, before, n.height, placeText(got), code, placeText(want), wantCode)
		}
		images[code]++
	})
	for _, codes := range []map[api.Code]int{grounds, images} {
		if codes[api.OK] < 500 || codes[api.ErrBehind] < 300 || codes[api.ErrDegenerate] < 50 {
			t.Errorf("numbers of codes: %v", codes)
		}
	}
}

// P19.3: the examples of the chapter, and points at the border of what is in front.
func TestGroundAndImageExamples(t *testing.T) {
	n := example()
	at, turn, code := shutter.Pose(n.s, 2)
	if code != api.OK || text(at[:]...) != "20 0 1000" || turn != quat(0, 1, 0, 0) {
		t.Errorf("Pose = %s, %v, %d", text(at[:]...), turn, code)
	}
	if p, code := shutter.Ground(n.s, n.c, n.at, 0); code != api.OK || placeText(p) != "120 -200" {
		t.Errorf("Ground = %s, %d", placeText(p), code)
	}
	if p, code := shutter.Image(n.s, n.c, 0, n.ground, 0); code != api.OK || placeText(p) != "384/5 128" {
		t.Errorf("Image = %s, %d", placeText(p), code)
	}
	if p, code := shutter.Correct(n.s, n.c, n.at, 0, 0); code != api.OK || placeText(p) != "384/5 128" {
		t.Errorf("Correct = %s, %d", placeText(p), code)
	}
	for _, c := range []struct {
		height int
		code   api.Code
		text   string
	}{{999, api.OK, "201/10 -1/5"}, {1000, api.ErrBehind, "? ?"}, {1001, api.ErrBehind, "? ?"}} {
		if p, code := shutter.Ground(n.s, n.c, n.at, c.height); code != c.code || placeText(p) != c.text {
			t.Errorf("Ground at %d = %s, %d", c.height, placeText(p), code)
		}
		if p, code := shutter.Image(n.s, n.c, 0, place("0", "0"), c.height); code != c.code || code != api.OK && placeText(p) != c.text {
			t.Errorf("Image at %d = %s, %d", c.height, placeText(p), code)
		}
	}
	// Z of the frame of the camera lies along X: the direction of (0, y) is parallel to the plane for y = 0, also if the camera lies in it.
	n.s.A.Turn, n.s.B.Turn = quat(1, 0, 1, 0), quat(1, 0, 1, 0)
	for _, height := range []int{0, 1000, 2000} {
		if p, code := shutter.Ground(n.s, n.c, api.Pix{Y: 77}, height); code != api.ErrDegenerate || placeText(p) != "? ?" {
			t.Errorf("Ground at %d = %s, %d", height, placeText(p), code)
		}
	}
	for _, c := range []struct {
		x, height int
		code      api.Code
	}{{1, 999, api.OK}, {1, 1000, api.ErrBehind}, {1, 1001, api.ErrBehind}, {-1, 1001, api.OK}, {-1, 1000, api.ErrBehind}, {-1, 999, api.ErrBehind}} {
		if _, code := shutter.Ground(n.s, n.c, api.Pix{X: c.x, Y: 77}, c.height); code != c.code {
			t.Errorf("Ground of %d at %d: %d, want %d", c.x, c.height, code, c.code)
		}
	}
	for _, c := range []struct {
		x    string
		code api.Code
	}{{"1/1000000000000", api.OK}, {"0", api.ErrBehind}, {"-1/1000000000000", api.ErrBehind}} {
		if _, code := shutter.Image(n.s, n.c, 0, place(c.x, "5"), 7); code != c.code {
			t.Errorf("Image of %s: %d, want %d", c.x, code, c.code)
		}
	}
}

// P19.4: the image of what is seen is where it is seen; to carry it over to its own row changes nothing.
func TestOwnRow(t *testing.T) {
	seen := 0
	some(2000, func(r *rand.Rand) {
		n := anyCall(r)
		if checkOf(n.s, 1) != api.OK {
			return
		}
		ground, code := shutter.Ground(n.s, n.c, n.at, n.height)
		if code != api.OK {
			return
		}
		seen++
		want := placeText(placeOf(n.at))
		if p, code := shutter.Image(n.s, n.c, n.at.Y/64, ground, n.height); code != api.OK || placeText(p) != want {
			t.Fatalf("Image(%v) = %s, %d", n, placeText(p), code)
		}
		if p, code := shutter.Correct(n.s, n.c, n.at, n.at.Y/64, n.height); code != api.OK || placeText(p) != want {
			t.Fatalf("Correct(%v) = %s, %d", n, placeText(p), code)
		}
	})
	if seen < 300 {
		t.Errorf("%d points", seen)
	}
}

// P19.5: Correct by its definition.
func TestCorrect(t *testing.T) {
	codes := map[api.Code]int{}
	some(2500, func(r *rand.Rand) {
		n := anyCall(r)
		if checkOf(n.s, 1) != api.OK {
			return
		}
		got, code := shutter.Correct(n.s, n.c, n.at, n.row, n.height)
		want, wantCode := correctOf(n.s, n.c, n.at, n.row, n.height)
		if code != wantCode || placeText(got) != placeText(want) {
			t.Fatalf("Correct(%v, %v, %v, %d, %d) = %s, %d, want %s, %d", n.s, n.c, n.at, n.row, n.height, placeText(got), code, placeText(want), wantCode)
		}
		codes[code]++
	})
	if codes[api.OK] < 500 || codes[api.ErrBehind] < 300 || codes[api.ErrDegenerate] < 50 {
		t.Errorf("numbers of codes: %v", codes)
	}
}

// P19.5: a platform that does not move.
func TestCorrectAtRest(t *testing.T) {
	seen := 0
	some(1500, func(r *rand.Rand) {
		n := anyCall(r)
		n.s.B.At, n.s.B.Turn = n.s.A.At, n.s.A.Turn
		if checkOf(n.s, 64) != api.OK {
			t.Fatalf("%v has a row whose rotation is zero", n.s)
		}
		if _, code := shutter.Ground(n.s, n.c, n.at, n.height); code != api.OK {
			return
		}
		seen++
		if p, code := shutter.Correct(n.s, n.c, n.at, n.row, n.height); code != api.OK || placeText(p) != placeText(placeOf(n.at)) {
			t.Fatalf("Correct(%v) = %s, %d", n, placeText(p), code)
		}
	})
	if seen < 300 {
		t.Errorf("%d points", seen)
	}
}

// P19.6: Rows by its definition.
func TestRows(t *testing.T) {
	lengths := map[int]int{}
	some(700, func(r *rand.Rand) {
		n := anyCall(r)
		if checkOf(n.s, n.rows) != api.OK {
			return
		}
		before := placeText(n.ground)
		got, code := shutter.Rows(n.s, n.c, n.rows, n.ground, n.height)
		want := rowsOf(n.s, n.c, n.rows, n.ground, n.height)
		if code != api.OK || !slices.Equal(got, want) || placeText(n.ground) != before {
			t.Fatalf("Rows(%v, %v, %d, %s, %d) = %v, %d, want %v", n.s, n.c, n.rows, before, n.height, got, code, want)
		}
		lengths[len(got)]++
	})
	if lengths[0] < 50 || lengths[1] < 50 {
		t.Errorf("lengths: %v", lengths)
	}
}

// P19.6: a point is seen in the row in which an image point shows it, and in each other row that shows it.
func TestRowsSeen(t *testing.T) {
	seen := 0
	some(1000, func(r *rand.Rand) {
		n := anyCall(r)
		if checkOf(n.s, 64) != api.OK {
			return
		}
		ground, code := shutter.Ground(n.s, n.c, n.at, n.height)
		if code != api.OK {
			return
		}
		seen++
		row := n.at.Y / 64
		rows, code := shutter.Rows(n.s, n.c, 64, ground, n.height)
		if code != api.OK || !slices.Contains(rows, row) {
			t.Fatalf("Rows(%v) = %v, %d", n, rows, code)
		}
		// With fewer rows the same rows are found, as far as there are any.
		rows = slices.DeleteFunc(rows, func(k int) bool { return k >= n.rows })
		if fewer, code := shutter.Rows(n.s, n.c, n.rows, ground, n.height); code != api.OK || !slices.Equal(fewer, rows) {
			t.Fatalf("Rows(%v) = %v, %d", n, fewer, code)
		}
	})
	if seen < 200 {
		t.Errorf("%d points", seen)
	}
}

// P19.6: the platform moves as fast as its image: a point is seen in all rows or in none; at the border it is that of the later row.
func TestRowsKept(t *testing.T) {
	all := make([]int, 64)
	for i := range all {
		all[i] = i
	}
	down := quat(0, 1, 0, 0)
	s := api.Shutter{Step: 1, A: api.Epoch{At: api.Spot{Z: 1000}, Turn: down}, B: api.Epoch{Time: 100, At: api.Spot{Y: 1000, Z: 1000}, Turn: down}}
	c := shutter.Camera{Focal: 6400}
	for _, l := range []struct {
		y    string
		seen bool
	}{{"0", true}, {"1/999999999", false}, {"-5", true}, {"-10", false}, {"-9999999999/1000000000", true}, {"5", false}} {
		var want []int
		if l.seen {
			want = all
		}
		if rows, code := shutter.Rows(s, c, 64, place("3", l.y), 0); code != api.OK || !slices.Equal(rows, want) {
			t.Errorf("Rows of %s = %v, %d", l.y, rows, code)
		}
		want = want[:len(want)*17/64]
		if rows, code := shutter.Rows(s, c, 17, place("3", l.y), 0); code != api.OK || !slices.Equal(rows, want) {
			t.Errorf("Rows of %s = %v, %d", l.y, rows, code)
		}
	}
	// A platform at rest shows each point in one row, the borders in the row that begins there.
	s.B.At = s.A.At
	for i := range 3 * 66 {
		// Before, at and behind each border.
		y := 64*(i/3) + i%3 - 1
		ground, want := api.Place{X: fraction.Whole(0), Y: ofBig(big.NewRat(int64(-10*y), 64))}, []int{y / 64}
		if y < 0 || y >= 4096 {
			want = nil
		}
		if rows, code := shutter.Rows(s, c, 64, ground, 0); code != api.OK || !slices.Equal(rows, want) {
			t.Errorf("Rows of %d = %v, %d", y, rows, code)
		}
		// Behind the camera nothing is seen.
		if rows, code := shutter.Rows(s, c, 64, ground, 2000); code != api.OK || len(rows) != 0 {
			t.Errorf("Rows of %d = %v, %d", y, rows, code)
		}
	}
}

// results are what all functions return for a call.
func results(n call) []string {
	var l []string
	put := func(code api.Code, s string) { l = append(l, s+" "+string(rune('A'+code))) }
	_, turn, code := shutter.Pose(n.s, n.row)
	put(code, text(fraction.Whole(turn.A), fraction.Whole(turn.B), fraction.Whole(turn.C), fraction.Whole(turn.D)))
	p, code := shutter.Image(n.s, n.c, n.row, n.ground, n.height)
	put(code, placeText(p))
	p, code = shutter.Correct(n.s, n.c, n.at, n.row, n.height)
	put(code, placeText(p))
	rows, code := shutter.Rows(n.s, n.c, n.rows, n.ground, n.height)
	for _, row := range rows {
		put(code, fraction.Text(fraction.Whole(row)))
	}
	return l
}

// P19.7: quaternions with a factor above 0 are the same rotations.
func TestScaled(t *testing.T) {
	some(700, func(r *rand.Rand) {
		n := anyCall(r)
		n.s.A.Turn, n.s.B.Turn = small(r), small(r)
		if checkOf(n.s, 64) != api.OK {
			return
		}
		m := n
		k := 2 + r.Intn(300)
		m.s.A.Turn, m.s.B.Turn = times(k, n.s.A.Turn), times(k, n.s.B.Turn)
		p, code := shutter.Ground(n.s, n.c, n.at, n.height)
		q, scaled := shutter.Ground(m.s, m.c, m.at, m.height)
		if code != scaled || placeText(p) != placeText(q) || !slices.Equal(results(n), results(m)) {
			t.Fatalf("%v and with the factor %d: %v, %v", n, k, results(n), results(m))
		}
	})
}

// P19.7: a shutter that is moved in space by integers moves the ground, and not the image.
func TestMoved(t *testing.T) {
	seen := 0
	some(1000, func(r *rand.Rand) {
		n := anyCall(r)
		if checkOf(n.s, 64) != api.OK {
			return
		}
		m := n
		shift := api.Spot{X: r.Intn(2001) - 1000, Y: r.Intn(2001) - 1000, Z: r.Intn(2001) - 1000}
		for _, e := range []*api.Epoch{&m.s.A, &m.s.B} {
			e.At = api.Spot{X: e.At.X + shift.X, Y: e.At.Y + shift.Y, Z: e.At.Z + shift.Z}
		}
		m.height += shift.Z
		if shutter.Check(m.s, 64) != api.OK || m.height > maxCoord || m.height < -maxCoord {
			return
		}
		moved := func(p api.Place) api.Place {
			return api.Place{X: fraction.Add(p.X, fraction.Whole(shift.X)), Y: fraction.Add(p.Y, fraction.Whole(shift.Y))}
		}
		m.ground = moved(n.ground)
		if !slices.Equal(results(n), results(m)) {
			t.Fatalf("%v and moved by %v: %v, %v", n, shift, results(n), results(m))
		}
		p, code := shutter.Ground(n.s, n.c, n.at, n.height)
		q, movedCode := shutter.Ground(m.s, m.c, m.at, m.height)
		if code != movedCode || code == api.OK && placeText(moved(p)) != placeText(q) {
			t.Fatalf("Ground of %v, and moved by %v: %s, %s", n, shift, placeText(p), placeText(q))
		}
		if code == api.OK {
			seen++
		}
	})
	if seen < 100 {
		t.Errorf("%d points", seen)
	}
}
