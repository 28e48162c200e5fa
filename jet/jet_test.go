package jet_test

import (
	"fmt"
	"math/big"
	"math/rand"
	"strings"
	"testing"

	"fiducial/api"
	"fiducial/fraction"
	"fiducial/interval"
	"fiducial/jet"
)

// example is the term of the first example of the chapter, x0 x1 + x0^2.
const example = "x0 x1 0*1 0^2 2+3"

// P7.1: sizes.
func TestSize(t *testing.T) {
	var treeSize func(u api.Term, k int) int
	treeSize = func(u api.Term, k int) int {
		switch n := u[k]; n.Op {
		case api.TermConst, api.TermVar:
			return 1
		case api.TermNeg:
			return treeSize(u, n.A)
		case api.TermSquare:
			return 2 * treeSize(u, n.A)
		default:
			return treeSize(u, n.A) + treeSize(u, n.B)
		}
	}
	some(2000, 20, 4, func(r *rand.Rand, u api.Term, vars int) {
		want := treeSize(u, len(u)-1)
		if got, code := jet.Size(u, vars); got != want || code != api.OK || jet.Check(u, vars) != api.OK {
			t.Fatalf("Size(%s) = %d, %d, want %d", termText(u), got, code, want)
		}
	})
	if n, code := jet.Size(term(example), 2); n != 4 || code != api.OK {
		t.Errorf("the example: %d, %d", n, code)
	}
	if n, code := jet.Size(term("x63 -0"), 64); n != 1 || code != api.OK {
		t.Errorf("a negative: %d, %d", n, code)
	}
}

// P7.2: values.
func TestValue(t *testing.T) {
	defined, singular := 0, 0
	some(3000, 20, 4, func(r *rand.Rand, u api.Term, vars int) {
		at := randomPoint(r, vars)
		want, ok := valueOf(u, at)
		got, code := jet.Value(u, at)
		if !ok {
			singular++
			if code != api.ErrSingular || !isBlank(got) {
				t.Fatalf("Value(%s, %s): %d", termText(u), listText(at), code)
			}
			return
		}
		defined++
		if code != api.OK || fraction.Compare(got, ofBig(want)) != 0 || !fraction.Valid(got) {
			t.Fatalf("Value(%s, %s) = %s, %d", termText(u), listText(at), fraction.Text(got), code)
		}
	})
	if defined < 1000 || singular < 100 {
		t.Errorf("%d values, %d times none", defined, singular)
	}
	for _, c := range [][3]string{{example, "2 3", "10"}, {"x0 x1 0:1", "1 2", "1/2"}, {"#-7/2", "", "-7/2"}, {"x1 x0", "5 6", "5"}, {"x0 #0 0*1 -2", "9", "0"}, {"x0 0:0", "-3", "1"}, {"x0 0^2 1^2 2^2 3^2", "2", "65536"}} {
		if x, code := jet.Value(term(c[0]), list(c[1])); code != api.OK || fraction.Text(x) != c[2] {
			t.Errorf("Value(%s, %s) = %s, %d", c[0], c[1], fraction.Text(x), code)
		}
	}
	// A divisor that the last node does not need.
	for _, c := range [][2]string{{"x0 x1 0:1", "1 0"}, {"#1 x0 0:1 1+1", "0"}, {"#0 0:0", ""}, {"x0 #0 1:0", "0"}} {
		if x, code := jet.Value(term(c[0]), list(c[1])); code != api.ErrSingular || !isBlank(x) {
			t.Errorf("Value(%s, %s): %d", c[0], c[1], code)
		}
	}
}

// P7.3: intervals of values.
func TestRanges(t *testing.T) {
	defined, singular := 0, 0
	some(2000, 15, 4, func(r *rand.Rand, u api.Term, vars int) {
		box := randomBox(r, vars)
		want, ok := jetsOf(u, box, 0, -1)
		got, code := jet.Ranges(u, box)
		if !ok {
			singular++
			if code != api.ErrSingular || !blankRange(got) {
				t.Fatalf("Ranges(%s, %s): %d", termText(u), boxText(box), code)
			}
			return
		}
		defined++
		if code != api.OK || rangeText(got) != rangeText(want.Value) {
			t.Fatalf("Ranges(%s, %s) = %s, %d, want %s", termText(u), boxText(box), rangeText(got), code, rangeText(want.Value))
		}
	})
	if defined < 500 || singular < 100 {
		t.Errorf("%d intervals, %d times none", defined, singular)
	}
	// A product does not know that a number occurs twice, a square does.
	minus := []api.Range{{Low: rat("-1"), High: rat("2")}}
	for s, want := range map[string]string{"x0 0*0": "[-2 4]", "x0 0^2": "[0 4]", "x0 0-0": "[-3 3]"} {
		if a, code := jet.Ranges(term(s), minus); rangeText(a) != want || code != api.OK {
			t.Errorf("Ranges(%s) = %s, %d", s, rangeText(a), code)
		}
	}
	for _, s := range []string{"x0 #1 1:0", "x0 #1 1:0 #3", "x0 0^2 0:1"} {
		if a, code := jet.Ranges(term(s), minus); code != api.ErrSingular || !blankRange(a) {
			t.Errorf("Ranges(%s) = %s, %d", s, rangeText(a), code)
		}
	}
	// An end that is 0 is an element, too.
	for _, low := range []string{"0", "-1"} {
		if _, code := jet.Ranges(term("x0 #1 1:0"), []api.Range{{Low: rat(low), High: fraction.Add(rat(low), rat("1"))}}); code != api.ErrSingular {
			t.Errorf("a divisor from %s: %d", low, code)
		}
	}
}

// P7.3: jets of all orders, rounded and not.
func TestJets(t *testing.T) {
	defined, singular := 0, 0
	some(1500, 14, 4, func(r *rand.Rand, u api.Term, vars int) {
		box := randomBox(r, vars)
		order, places := r.Intn(3), []int{-1, -1, 0, 1, 5, 20, 128, 512, -7}[r.Intn(9)]
		want, ok := jetsOf(u, box, order, places)
		got, code := jet.Jets(u, box, order, places)
		what := fmt.Sprintf("Jets(%s, %s, %d, %d)", termText(u), boxText(box), order, places)
		if !ok {
			singular++
			if code != api.ErrSingular || jetText(got) != jetText(api.Jet{}) || !blankRange(got.Value) {
				t.Fatalf("%s: %d", what, code)
			}
			return
		}
		defined++
		if code != api.OK || jetText(got) != jetText(want) {
			t.Fatalf("%s = %s, %d, want %s", what, jetText(got), code, jetText(want))
		}
	})
	if defined < 500 || singular < 100 {
		t.Errorf("%d jets, %d times none", defined, singular)
	}
	box := []api.Range{{Low: rat("1"), High: rat("2")}, {Low: rat("3"), High: rat("4")}}
	for order, want := range []string{"[4 12] |  |", "[4 12] | [5 8] [1 2] |", "[4 12] | [5 8] [1 2] | [2 2]; [1 1] [0 0];"} {
		if j, code := jet.Jets(term(example), box, order, -1); jetText(j) != want || code != api.OK {
			t.Errorf("the example with the order %d: %s, %d", order, jetText(j), code)
		}
	}
	if j, code := jet.Jets(term("x0 x1 0:1"), points(list("1 2")), 2, -1); jetText(j) != "[1/2 1/2] | [1/2 1/2] [-1/4 -1/4] | [0 0]; [-1/4 -1/4] [1/4 1/4];" || code != api.OK {
		t.Errorf("the quotient: %s, %d", jetText(j), code)
	}
	if _, code := jet.Jets(term("x0 x1 0:1"), points(list("1 0")), 2, -1); code != api.ErrSingular {
		t.Errorf("the quotient by 0: %d", code)
	}
}

// P7.3: constants and parameters are rounded like all others, and a divisor may contain 0 only when it is rounded.
func TestJetsRounding(t *testing.T) {
	third := []api.Range{{Low: rat("1/3"), High: rat("2/5")}}
	for _, c := range []struct {
		t      string
		places int
		want   string
	}{
		{"x0", 0, "[0 1] | [1 1] | [0 0];"},
		{"x0", 1, "[0 1/2] | [1 1] | [0 0];"},
		{"#1/3", 2, "[1/4 1/2] | [0 0] | [0 0];"},
		{"x0 #1/3 0*1", 2, "[0 1/4] | [1/4 1/2] | [0 0];"},
		{"x0 #1/3 0*1", -1, "[1/9 2/15] | [1/3 1/3] | [0 0];"},
		{"x0 0^2", 2, "[0 1/4] | [1/2 1] | [2 2];"},
		{"#1 x0 0:1", 2, "[2 4] | [-16 -4] | [16 128];"},
	} {
		if j, code := jet.Jets(term(c.t), third, 2, c.places); jetText(j) != c.want || code != api.OK {
			t.Errorf("Jets(%s, %d) = %s, %d", c.t, c.places, jetText(j), code)
		}
	}
	if _, code := jet.Jets(term("#1 x0 0:1"), third, 0, 1); code != api.ErrSingular {
		t.Errorf("a divisor that is rounded to 0: %d", code)
	}
}

// P7.3: 64 parameters, and a term of 400 nodes.
func TestJetsLargest(t *testing.T) {
	var u api.Term
	at := make([]api.Rat, 64)
	for i := range at {
		u = append(u, parameter(i))
		at[i] = fraction.Whole(i + 1)
	}
	for i := range 64 {
		u = append(u, node(api.TermMul, i, (i+1)%64))
	}
	for i := range 63 {
		u = append(u, node(api.TermAdd, len(u)-1, 64+i))
	}
	for len(u) < api.MaxNodes {
		u = append(u, node(api.TermNeg, len(u)-1, 0))
	}
	// It has the sign of the even number of negatives, and the products of neighbours on a circle.
	sign := int64(1)
	if (api.MaxNodes-191)%2 == 1 {
		sign = -1
	}
	for _, places := range []int{-1, 3} {
		j, code := jet.Jets(u, points(at), 2, places)
		if code != api.OK || len(j.Grad) != 64 || len(j.Hess) != 64 {
			t.Fatalf("%d", code)
		}
		for i := range 64 {
			slope := sign * int64((i+1)%64+1+(i+63)%64+1)
			if rangeText(j.Grad[i]) != fmt.Sprintf("[%d %d]", slope, slope) {
				t.Errorf("Grad[%d] = %s", i, rangeText(j.Grad[i]))
			}
			for k, a := range j.Hess[i] {
				want := "[0 0]"
				if i-k == 1 || i-k == 63 {
					want = fmt.Sprintf("[%d %d]", sign, sign)
				}
				if rangeText(a) != want || len(j.Hess[i]) != i+1 {
					t.Errorf("Hess[%d][%d] = %s", i, k, rangeText(a))
				}
			}
		}
	}
}

// P7.4: at points without rounding jets are exact.
func TestJetsAtPoints(t *testing.T) {
	defined := 0
	some(1000, 14, 3, func(r *rand.Rand, u api.Term, vars int) {
		at := randomPoint(r, vars)
		j, code := jet.Jets(u, points(at), 2, -1)
		value, ok := valueOf(u, at)
		if !ok {
			if code != api.ErrSingular {
				t.Fatalf("Jets(%s, %s): %d", termText(u), listText(at), code)
			}
			return
		}
		defined++
		is := func(what string, a api.Range, x *big.Rat) {
			if fraction.Compare(a.Low, ofBig(x)) != 0 || fraction.Compare(a.High, ofBig(x)) != 0 {
				t.Fatalf("%s of %s at %s = %s, want %s", what, termText(u), listText(at), rangeText(a), x)
			}
		}
		is("Value", j.Value, value)
		for i := range vars {
			for k := range i + 1 {
				p, _ := seriesOf(u, at, i, k)
				is("Grad", j.Grad[i], p[1])
				is("Grad", j.Grad[k], p[2])
				is("Hess", j.Hess[i][k], p[4])
			}
		}
	})
	if defined < 300 {
		t.Errorf("only %d jets", defined)
	}
}

// P7.5: the jet at a point of a box lies in the jet of the box.
func TestEnclosure(t *testing.T) {
	defined := 0
	some(1000, 14, 3, func(r *rand.Rand, u api.Term, vars int) {
		box := randomBox(r, vars)
		places := []int{-1, 0, 3, 128}[r.Intn(4)]
		wide, code := jet.Jets(u, box, 2, places)
		if code != api.OK {
			return
		}
		defined++
		for range 3 {
			at := within(r, box)
			value, _ := jet.Value(u, at)
			inner, code := jet.Jets(u, points(at), 2, -1)
			inside := code == api.OK && interval.Has(wide.Value, value) && interval.Inside(inner.Value, wide.Value)
			for i := range vars {
				inside = inside && interval.Inside(inner.Grad[i], wide.Grad[i])
				for k := range i + 1 {
					inside = inside && interval.Inside(inner.Hess[i][k], wide.Hess[i][k])
				}
			}
			if !inside {
				t.Fatalf("%s at %s: %s, %d, not in %s", termText(u), listText(at), jetText(inner), code, jetText(wide))
			}
		}
	})
	if defined < 300 {
		t.Errorf("only %d jets", defined)
	}
}

// P7.7: the difference of two values lies in the sum of the derivatives times the differences of the coordinates.
func TestMeanValues(t *testing.T) {
	defined := 0
	some(1000, 14, 3, func(r *rand.Rand, u api.Term, vars int) {
		box := randomBox(r, vars)
		j, code := jet.Jets(u, box, 1, []int{-1, 2, 128}[r.Intn(3)])
		if code != api.OK {
			return
		}
		defined++
		x, y := within(r, box), within(r, box)
		first, _ := jet.Value(u, x)
		second, _ := jet.Value(u, y)
		var steps []api.Range
		for i := range vars {
			step, _ := interval.Point(fraction.Sub(y[i], x[i]))
			steps = append(steps, step)
		}
		sum, code := interval.Dot(j.Grad, steps)
		if difference := fraction.Sub(second, first); code != api.OK || !interval.Has(sum, difference) {
			t.Fatalf("%s from %s to %s: %s not in %s", termText(u), listText(x), listText(y), fraction.Text(difference), rangeText(sum))
		}
	})
	if defined < 300 {
		t.Errorf("only %d jets", defined)
	}
}

// P7.2, P7.3: a term of the greatest size.
func TestGreatestSize(t *testing.T) {
	u := term("x0 " + strings.Join(strings.Fields("0^2 1^2 2^2 3^2 4^2 5^2 6^2 7^2 8^2 9^2 10^2 11^2"), " "))
	if n, code := jet.Size(u, 1); n != jet.MaxSize || code != api.OK {
		t.Fatalf("Size = %d, %d", n, code)
	}
	at := list("-3/2")
	want, _ := valueOf(u, at)
	if got, code := jet.Value(u, at); code != api.OK || fraction.Compare(got, ofBig(want)) != 0 {
		t.Errorf("Value: %d", code)
	}
	j, code := jet.Jets(u, points(at), 2, -1)
	p, _ := seriesOf(u, at, 0, -1)
	if code != api.OK || fraction.Compare(j.Grad[0].Low, ofBig(p[1])) != 0 || fraction.Compare(j.Hess[0][0].High, ofBig(p[3].Add(p[3], p[3]))) != 0 {
		t.Errorf("Jets: %d", code)
	}
}
