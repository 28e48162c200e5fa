package interval_test

import (
	"math"
	"math/rand"
	"slices"
	"testing"

	"fiducial/api"
	"fiducial/fraction"
	"fiducial/interval"
)

// P3.1: which intervals are valid.
func TestValid(t *testing.T) {
	r := rand.New(rand.NewSource(1))
	for range 500 {
		if a := random(r); !interval.Valid(a) {
			t.Errorf("Valid(%s) is false", text(a))
		}
	}
	for _, a := range notValid() {
		if interval.Valid(a) {
			t.Errorf("Valid(%v) is true", a)
		}
	}
}

// P3.1: intervals of their ends.
func TestPointAndMake(t *testing.T) {
	r := rand.New(rand.NewSource(2))
	for range 500 {
		x, y := number(r), number(r)
		a, code := interval.Point(x)
		equal(t, "Point", a, api.Range{Low: x, High: x})
		b, made := interval.Make(x, y)
		if fraction.Compare(x, y) > 0 {
			equal(t, "Make", b, api.Range{})
			if made != api.ErrOrder {
				t.Fatalf("Make(%v, %v): %d", x, y, made)
			}
			continue
		}
		equal(t, "Make", b, api.Range{Low: x, High: y})
		if code != api.OK || made != api.OK {
			t.Fatalf("Point and Make: %d, %d", code, made)
		}
	}
	for _, x := range notCanonical() {
		a, e := interval.Point(x)
		b, f := interval.Make(x, fraction.Whole(-5))
		c, g := interval.Make(fraction.Whole(5), x)
		d, h := interval.Make(x, x)
		if e != api.ErrArgument || f != api.ErrArgument || g != api.ErrArgument || h != api.ErrArgument {
			t.Errorf("codes for %v: %d, %d, %d, %d", x, e, f, g, h)
		}
		for _, z := range []api.Range{a, b, c, d} {
			equal(t, "with an error", z, api.Range{})
		}
	}
}

// P3.1: the relations, over all intervals with ends from a short list.
func TestRelations(t *testing.T) {
	numbers := []api.Rat{rat(t, "-2"), rat(t, "-1/3"), rat(t, "0"), rat(t, "1/7"), rat(t, "1"), rat(t, "100000000000000000001/100000000000000000000")}
	for i, low := range numbers {
		for j := i; j < len(numbers); j++ {
			a := api.Range{Low: low, High: numbers[j]}
			for k, x := range numbers {
				if interval.Has(a, x) != (i <= k && k <= j) {
					t.Errorf("Has(%s, %s)", text(a), fraction.Text(x))
				}
				for l := k; l < len(numbers); l++ {
					b := api.Range{Low: x, High: numbers[l]}
					if interval.Inside(a, b) != (k <= i && j <= l) || interval.Strict(a, b) != (k < i && j < l) || interval.Apart(a, b) != (j < k || l < i) {
						t.Errorf("relations of %s and %s", text(a), text(b))
					}
				}
			}
		}
	}
}

// P3.1: no relation holds for what is not valid.
func TestRelationsNotValid(t *testing.T) {
	wide, far := of(t, "-100", "100"), of(t, "1000", "1001")
	for _, a := range notValid() {
		for _, b := range []api.Range{wide, far, a} {
			if interval.Inside(a, b) || interval.Inside(b, a) || interval.Strict(a, b) || interval.Strict(b, a) || interval.Apart(a, b) || interval.Apart(b, a) {
				t.Errorf("a relation of %v and %v", a, b)
			}
		}
		for _, x := range []api.Rat{fraction.Whole(0), fraction.Whole(1), a.Low} {
			if interval.Has(a, x) {
				t.Errorf("Has(%v, %v)", a, x)
			}
		}
	}
	for _, x := range notCanonical() {
		if interval.Has(wide, x) {
			t.Errorf("Has(%s, %v)", text(wide), x)
		}
	}
}

// P3.2: the examples of the chapter, and cases of all signs.
func TestImages(t *testing.T) {
	for _, c := range []struct {
		name             string
		apply            func(a, b api.Range) (api.Range, api.Code)
		a, b, c, d, e, f string
	}{
		{"Mul", interval.Mul, "-1", "2", "3", "4", "-4", "8"},
		{"Mul", interval.Mul, "-1", "2", "-1", "2", "-2", "4"},
		{"Mul", interval.Mul, "-3", "2", "-4", "5", "-15", "12"},
		{"Mul", interval.Mul, "-3", "-2", "-4", "5", "-15", "12"},
		{"Mul", interval.Mul, "2", "3", "-4", "5", "-12", "15"},
		{"Mul", interval.Mul, "-3", "-2", "-5", "-4", "8", "15"},
		{"Mul", interval.Mul, "-3", "-2", "4", "5", "-15", "-8"},
		{"Mul", interval.Mul, "0", "0", "-4", "5", "0", "0"},
		{"Divide", interval.Divide, "1", "2", "-4", "-2", "-1", "-1/4"},
		{"Divide", interval.Divide, "-1", "2", "2", "4", "-1/2", "1"},
		{"Divide", interval.Divide, "-3", "-1", "2", "4", "-3/2", "-1/4"},
		{"Divide", interval.Divide, "-3", "-1", "-1/2", "-1/4", "2", "12"},
		{"Divide", interval.Divide, "0", "0", "-1/2", "-1/4", "0", "0"},
		{"Add", interval.Add, "-1", "2", "3", "4", "2", "6"},
		{"Sub", interval.Sub, "-1", "2", "3", "4", "-5", "-1"},
	} {
		got, code := c.apply(of(t, c.a, c.b), of(t, c.c, c.d))
		equal(t, c.name, got, of(t, c.e, c.f))
		if code != api.OK {
			t.Errorf("%s of [%s, %s] and [%s, %s]: %d", c.name, c.a, c.b, c.c, c.d, code)
		}
	}
	for _, c := range [][4]string{{"-1", "2", "0", "4"}, {"-3", "2", "0", "9"}, {"-3", "-2", "4", "9"}, {"2", "3", "4", "9"}, {"0", "3", "0", "9"}, {"-3", "0", "0", "9"}, {"0", "0", "0", "0"}} {
		got, code := interval.Square(of(t, c[0], c[1]))
		equal(t, "Square", got, of(t, c[2], c[3]))
		if code != api.OK {
			t.Errorf("Square: %d", code)
		}
	}
}

// P3.2, P3.3 and P3.4: the images contain the results for elements, and their ends are such results.
func TestExactImage(t *testing.T) {
	r := rand.New(rand.NewSource(3))
	for range 1500 {
		a, b := random(r), random(r)
		for _, op := range unaries() {
			got, code := op.apply(a)
			var values []api.Rat
			for _, x := range within(r, a) {
				values = append(values, op.at(x))
			}
			// The ends, and 0 where it is an element, are among the elements: there the extremes lie.
			equal(t, op.name+" of "+text(a), got, image(values))
			if code != api.OK {
				t.Fatalf("%s of %s: %d", op.name, text(a), code)
			}
		}
		for _, op := range binaries() {
			checkBinary(t, r, op, a, b)
		}
	}
}

func checkBinary(t *testing.T, r *rand.Rand, op binary, a, b api.Range) {
	t.Helper()
	got, code := op.apply(a, b)
	if op.name == "Divide" && hasZero(b) {
		equal(t, "with an error", got, api.Range{})
		if code != api.ErrSingular {
			t.Fatalf("%s by %s: %d", text(a), text(b), code)
		}
		return
	}
	var values []api.Rat
	for _, x := range within(r, a) {
		for _, y := range within(r, b) {
			values = append(values, op.at(x, y))
		}
	}
	equal(t, op.name+" of "+text(a)+" and "+text(b), got, image(values))
	if code != api.OK {
		t.Fatalf("%s of %s and %s: %d", op.name, text(a), text(b), code)
	}
}

// P3.2: sums of products of independent elements.
func TestDot(t *testing.T) {
	r := rand.New(rand.NewSource(4))
	for n := range 12 {
		a, b := make([]api.Range, n), make([]api.Range, n)
		want, _ := interval.Point(fraction.Whole(0))
		for i := range n {
			a[i], b[i] = random(r), random(r)
			p, _ := interval.Mul(a[i], b[i])
			want, _ = interval.Add(want, p)
		}
		got, code := interval.Dot(a, b)
		equal(t, "Dot", got, want)
		if code != api.OK {
			t.Errorf("Dot: %d", code)
		}
	}
	// The two factors of a square are independent, too.
	a := []api.Range{of(t, "-1", "2"), of(t, "3", "4")}
	got, _ := interval.Dot(a, a)
	equal(t, "Dot", got, of(t, "7", "20"))
}

// P3.5: the image of a part is a part of the image.
func TestMonotone(t *testing.T) {
	r := rand.New(rand.NewSource(5))
	for range 1500 {
		c, d := random(r), random(r)
		a, b := inner(r, c), inner(r, d)
		for _, op := range unaries() {
			part, _ := op.apply(a)
			all, _ := op.apply(c)
			if !interval.Inside(part, all) {
				t.Fatalf("%s of %s and %s", op.name, text(a), text(c))
			}
		}
		for _, op := range binaries() {
			part, _ := op.apply(a, b)
			all, code := op.apply(c, d)
			if code == api.OK && !interval.Inside(part, all) {
				t.Fatalf("%s of %s, %s and %s, %s", op.name, text(a), text(b), text(c), text(d))
			}
		}
		part, _ := interval.Round(a, 2)
		all, _ := interval.Round(c, 2)
		if !interval.Inside(part, all) {
			t.Fatalf("Round of %s and %s", text(a), text(c))
		}
	}
}

// P3.6: Hull is the join, and Meet the meet, of the order Inside.
func TestHullAndMeet(t *testing.T) {
	r := rand.New(rand.NewSource(6))
	for range 2000 {
		a, b, c := random(r), random(r), random(r)
		hull, code := interval.Hull(a, b)
		if code != api.OK || !interval.Inside(a, hull) || !interval.Inside(b, hull) {
			t.Fatalf("Hull of %s and %s is %s, %d", text(a), text(b), text(hull), code)
		}
		if interval.Inside(a, c) && interval.Inside(b, c) && !interval.Inside(hull, c) {
			t.Fatalf("Hull of %s and %s is %s, which is not in %s", text(a), text(b), text(hull), text(c))
		}
		equal(t, "Hull", hull, image([]api.Rat{a.Low, a.High, b.Low, b.High}))
		meet, code := interval.Meet(a, b)
		if interval.Apart(a, b) {
			equal(t, "Meet", meet, api.Range{})
			if code != api.ErrMissing {
				t.Fatalf("Meet of %s and %s: %d", text(a), text(b), code)
			}
			continue
		}
		if code != api.OK || !interval.Inside(meet, a) || !interval.Inside(meet, b) {
			t.Fatalf("Meet of %s and %s is %s, %d", text(a), text(b), text(meet), code)
		}
		for _, x := range append(within(r, a), within(r, b)...) {
			if interval.Has(meet, x) != (interval.Has(a, x) && interval.Has(b, x)) {
				t.Fatalf("Meet of %s and %s is %s", text(a), text(b), text(meet))
			}
		}
		if part := inner(r, a); interval.Inside(part, b) && !interval.Inside(part, meet) {
			t.Fatalf("Meet of %s and %s is %s, without %s", text(a), text(b), text(meet), text(part))
		}
	}
	meet, code := interval.Meet(of(t, "0", "1"), of(t, "1", "2"))
	equal(t, "Meet", meet, of(t, "1", "1"))
	_, missing := interval.Meet(of(t, "0", "1"), of(t, "2", "3"))
	if code != api.OK || missing != api.ErrMissing {
		t.Errorf("Meet: %d, %d", code, missing)
	}
}

// P3.7: rounding outwards.
func TestRound(t *testing.T) {
	r := rand.New(rand.NewSource(7))
	for range 1000 {
		a, k := random(r), r.Intn(70)
		got, code := interval.Round(a, k)
		low, _ := fraction.Down(a.Low, k)
		high, _ := fraction.Up(a.High, k)
		equal(t, "Round", got, api.Range{Low: low, High: high})
		again, _ := interval.Round(got, k)
		equal(t, "Round again", again, got)
		if code != api.OK || !interval.Inside(a, got) {
			t.Fatalf("Round(%s, %d) = %s, %d", text(a), k, text(got), code)
		}
	}
	for _, k := range []int{0, api.MaxPlaces} {
		if got, code := interval.Round(of(t, "1/3", "2/3"), k); code != api.OK || !interval.Valid(got) {
			t.Errorf("Round to %d places: %d", k, code)
		}
	}
}

// P3.7: roots, of which the squares enclose the argument.
func TestRoot(t *testing.T) {
	r := rand.New(rand.NewSource(8))
	for range 1000 {
		a, k := random(r), r.Intn(40)
		got, code := interval.Root(a, k)
		if fraction.Sign(a.Low) < 0 {
			equal(t, "Root", got, api.Range{})
			if code != api.ErrRange {
				t.Fatalf("Root(%s, %d): %d", text(a), k, code)
			}
			continue
		}
		low, _, _ := fraction.Root(a.Low, k)
		_, high, _ := fraction.Root(a.High, k)
		equal(t, "Root", got, api.Range{Low: low, High: high})
		square, _ := interval.Square(got)
		if code != api.OK || !interval.Inside(a, square) {
			t.Fatalf("Root(%s, %d) = %s, %d", text(a), k, text(got), code)
		}
	}
	for _, c := range []struct {
		low, high string
		k         int
		a, b      string
	}{{"2", "4", 0, "1", "2"}, {"2", "4", 1, "1", "2"}, {"2", "5", 1, "1", "5/2"}, {"0", "0", 3, "0", "0"}, {"0", "1/4", 1, "0", "1/2"}, {"0", "1/4", 0, "0", "1"}} {
		got, code := interval.Root(of(t, c.low, c.high), c.k)
		equal(t, "Root", got, of(t, c.a, c.b))
		if code != api.OK {
			t.Errorf("Root: %d", code)
		}
	}
}

// P3.7: numbers of places that are out of range.
func TestPlacesOutOfRange(t *testing.T) {
	for _, k := range []int{-1, api.MaxPlaces + 1, math.MinInt, math.MaxInt} {
		for _, a := range []api.Range{of(t, "1", "2"), of(t, "-2", "1")} {
			x, e := interval.Round(a, k)
			y, f := interval.Root(a, k)
			equal(t, "Round", x, api.Range{})
			equal(t, "Root", y, api.Range{})
			if e != api.ErrRange || f != api.ErrRange {
				t.Errorf("%d places: %d, %d", k, e, f)
			}
		}
	}
}

// P3.8: width, middle, magnitude and sign.
func TestSizes(t *testing.T) {
	r := rand.New(rand.NewSource(9))
	for range 1000 {
		a := random(r)
		w, e := interval.Width(a)
		m, f := interval.Middle(a)
		g, h := interval.Magnitude(a)
		if e != api.OK || f != api.OK || h != api.OK {
			t.Fatalf("sizes of %s: %d, %d, %d", text(a), e, f, h)
		}
		if !sameRat(w, fraction.Sub(a.High, a.Low)) || !sameRat(fraction.Sub(m, a.Low), fraction.Sub(a.High, m)) {
			t.Fatalf("Width and Middle of %s: %s, %s", text(a), fraction.Text(w), fraction.Text(m))
		}
		if greatest, _ := fraction.Greatest([]api.Rat{fraction.Abs(a.Low), fraction.Abs(a.High)}); !sameRat(g, greatest) {
			t.Fatalf("Magnitude of %s: %s", text(a), fraction.Text(g))
		}
	}
	for _, c := range []struct {
		low, high string
		sign      int
	}{{"-2", "-1", -1}, {"-2", "0", 2}, {"-2", "1", 2}, {"0", "0", 0}, {"0", "1", 2}, {"1/9", "5", 1}, {"7", "7", 1}, {"-7", "-7", -1}} {
		if got := interval.Sign(of(t, c.low, c.high)); got != c.sign {
			t.Errorf("Sign([%s, %s]) = %d", c.low, c.high, got)
		}
	}
	for _, a := range notValid() {
		if interval.Sign(a) != 2 {
			t.Errorf("Sign(%v) = %d", a, interval.Sign(a))
		}
	}
}

// The first error is ErrArgument, before those of singular divisors, of places and of lengths.
func TestArgumentFirst(t *testing.T) {
	good, zero := of(t, "-1", "2"), of(t, "0", "0")
	for _, bad := range notValid() {
		for _, op := range append(binaries(), binary{"Hull", interval.Hull, nil}, binary{"Meet", interval.Meet, nil}) {
			for _, c := range [][2]api.Range{{bad, good}, {good, bad}, {bad, zero}, {bad, bad}} {
				got, code := op.apply(c[0], c[1])
				equal(t, op.name, got, api.Range{})
				if code != api.ErrArgument {
					t.Errorf("%s of %v and %v: %d", op.name, c[0], c[1], code)
				}
			}
		}
		for _, op := range unaries() {
			got, code := op.apply(bad)
			equal(t, op.name, got, api.Range{})
			if code != api.ErrArgument {
				t.Errorf("%s of %v: %d", op.name, bad, code)
			}
		}
		for _, k := range []int{3, -1, api.MaxPlaces + 1} {
			x, e := interval.Round(bad, k)
			y, f := interval.Root(bad, k)
			equal(t, "Round", x, api.Range{})
			equal(t, "Root", y, api.Range{})
			if e != api.ErrArgument || f != api.ErrArgument {
				t.Errorf("Round and Root of %v: %d, %d", bad, e, f)
			}
		}
		checkSizesOfBad(t, bad)
		checkDotOfBad(t, bad, good)
	}
	got, code := interval.Dot([]api.Range{good}, []api.Range{good, zero})
	equal(t, "Dot", got, api.Range{})
	if code != api.ErrMismatch {
		t.Errorf("Dot of lists that do not fit: %d", code)
	}
}

func checkSizesOfBad(t *testing.T, bad api.Range) {
	t.Helper()
	for i, size := range []func(api.Range) (api.Rat, api.Code){interval.Width, interval.Middle, interval.Magnitude} {
		x, code := size(bad)
		if code != api.ErrArgument || !sameRat(x, api.Rat{}) {
			t.Errorf("size %d of %v: %v, %d", i, bad, x, code)
		}
	}
}

func checkDotOfBad(t *testing.T, bad, good api.Range) {
	t.Helper()
	for _, c := range [][2][]api.Range{{{good, bad}, {good, good}}, {{good, good}, {good, bad}}, {{bad}, nil}, {{good}, {good, bad}}, {nil, {good, bad}}} {
		got, code := interval.Dot(c[0], c[1])
		equal(t, "Dot", got, api.Range{})
		if code != api.ErrArgument {
			t.Errorf("Dot of %v and %v: %d", c[0], c[1], code)
		}
	}
}

// The arguments stay as they are, and results are new memory.
func TestNothingIsShared(t *testing.T) {
	intervals := []api.Range{of(t, "0", "0"), of(t, "1", "1"), of(t, "-3", "7/2"), of(t, "2", "4"), of(t, "-9", "-1/5"), of(t, "12345678901234567890123/7", "1234567890123456789012345678901234567890")}
	for _, a := range intervals {
		for _, b := range intervals {
			before, after := text(a), text(b)
			for i, z := range results(a, b) {
				parts := [][]uint32{z.Low.Num.Groups, z.Low.Den.Groups, z.High.Num.Groups, z.High.Den.Groups}
				for k, groups := range parts {
					copies := make([][]uint32, len(parts))
					for l := range parts {
						copies[l] = slices.Clone(parts[l])
					}
					for l := range groups {
						groups[l] = 123
					}
					_ = append(groups, 123)
					for l := range parts {
						if l != k && !slices.Equal(parts[l], copies[l]) {
							t.Fatalf("result %d of %s and %s shares memory with itself", i, before, after)
						}
					}
				}
				if text(a) != before || text(b) != after {
					t.Fatalf("result %d of %s and %s shares memory with an argument", i, before, after)
				}
			}
		}
	}
}

// results are the intervals that the functions return for a and b.
func results(a, b api.Range) []api.Range {
	point, _ := interval.Point(a.Low)
	made, _ := interval.Make(a.Low, a.Low)
	hull, _ := interval.Hull(a, b)
	meet, _ := interval.Meet(a, b)
	round, _ := interval.Round(a, 3)
	root, _ := interval.Root(a, 3)
	width, _ := interval.Width(a)
	middle, _ := interval.Middle(a)
	magnitude, _ := interval.Magnitude(a)
	l := []api.Range{point, made, hull, meet, round, root, {Low: width, High: middle}, {Low: magnitude}}
	for _, op := range unaries() {
		z, _ := op.apply(a)
		l = append(l, z)
	}
	for _, op := range binaries() {
		z, _ := op.apply(a, b)
		l = append(l, z)
	}
	return l
}
