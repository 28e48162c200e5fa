package jet_test

import (
	"fmt"
	"math"
	"slices"
	"testing"

	"fiducial/api"
	"fiducial/fraction"
	"fiducial/integer"
	"fiducial/jet"
)

// invalid are terms that are not valid over two parameters, with the code of the first error; many have further errors behind it.
func invalid() map[string]struct {
	t    api.Term
	code api.Code
} {
	type c = struct {
		t    api.Term
		code api.Code
	}
	blank := api.TermNode{}
	one := number("1")
	with := func(nodes ...api.TermNode) api.Term { return nodes }
	numbered := func(n api.TermNode) api.TermNode { n.N = rat("0"); return n }
	m := map[string]c{
		"no nodes":                     {nil, api.ErrArgument},
		"empty list":                   {api.Term{}, api.ErrArgument},
		"401 nodes":                    {slices.Repeat(with(blank), 401), api.ErrLimit},
		"constant without a number":    {with(blank), api.ErrArgument},
		"operator below 0":             {with(node(-1, 0, 0)), api.ErrArgument},
		"operator 8":                   {with(one, node(8, 7, 0)), api.ErrArgument},
		"least operator":               {with(one, node(math.MinInt, 0, 0)), api.ErrArgument},
		"greatest operator":            {with(one, node(math.MaxInt, 0, 0)), api.ErrArgument},
		"constant with A":              {with(api.TermNode{A: 1, N: rat("1")}), api.ErrArgument},
		"constant with B":              {with(api.TermNode{B: -1, N: rat("1")}), api.ErrArgument},
		"parameter with B":             {with(node(api.TermVar, 9, 1)), api.ErrArgument},
		"parameter with a number":      {with(numbered(parameter(9))), api.ErrArgument},
		"negative with B":              {with(one, node(api.TermNeg, 9, 1)), api.ErrArgument},
		"square with B":                {with(one, node(api.TermSquare, -1, -1)), api.ErrArgument},
		"negative with a number":       {with(one, numbered(node(api.TermNeg, 0, 0))), api.ErrArgument},
		"sum with a number":            {with(one, numbered(node(api.TermAdd, 9, 0))), api.ErrArgument},
		"quotient with a number":       {with(one, numbered(node(api.TermDiv, 0, 0))), api.ErrArgument},
		"sum with a negative sign":     {with(one, api.TermNode{Op: api.TermAdd, N: api.Rat{Num: api.Int{Negative: true}}}), api.ErrArgument},
		"sum with a denominator":       {with(one, api.TermNode{Op: api.TermAdd, N: api.Rat{Den: integer.Of(1)}}), api.ErrArgument},
		"A is the node itself":         {with(one, node(api.TermNeg, 1, 0)), api.ErrOrder},
		"A is below 0":                 {with(one, node(api.TermSquare, -1, 0)), api.ErrOrder},
		"A of the first node":          {with(node(api.TermNeg, 0, 0), blank), api.ErrOrder},
		"B is the node itself":         {with(one, node(api.TermMul, 0, 1), blank), api.ErrOrder},
		"B is below 0":                 {with(one, node(api.TermSub, 0, -1)), api.ErrOrder},
		"B is far behind":              {with(one, node(api.TermDiv, 0, math.MaxInt)), api.ErrOrder},
		"A is far before":              {with(one, node(api.TermAdd, math.MinInt, 0)), api.ErrOrder},
		"parameter 2":                  {with(parameter(2), blank), api.ErrRange},
		"parameter -1":                 {with(one, parameter(-1)), api.ErrRange},
		"greatest parameter":           {with(parameter(math.MaxInt)), api.ErrRange},
		"size 8192":                    {term("x0 0^2 1^2 2^2 3^2 4^2 5^2 6^2 7^2 8^2 9^2 10^2 11^2 12^2 99+99"), api.ErrLimit},
		"size 4097":                    {term("x0 0^2 1^2 2^2 3^2 4^2 5^2 6^2 7^2 8^2 9^2 10^2 11^2 0*12 x7"), api.ErrLimit},
		"size 4097 of a quotient":      {term("x0 0+0 1+1 2+2 3+3 4+4 5+5 6+6 7+7 8+8 9+9 10+10 11+11 12:0"), api.ErrLimit},
		"parameter 7 before size 8192": {term("x0 0^2 1^2 2^2 3^2 4^2 5^2 6^2 7^2 8^2 9^2 10^2 11^2 x7 12^2"), api.ErrRange},
	}
	for i, x := range notCanonical() {
		m[fmt.Sprint("number ", i)] = c{with(one, api.TermNode{N: x}), api.ErrArgument}
		m[fmt.Sprint("number behind another error ", i)] = c{with(one, parameter(5), api.TermNode{N: x}), api.ErrRange}
	}
	return m
}

// functions are all functions, for terms over two parameters; they return whether all other results are zero. Further arguments have errors that come later.
func functions() map[string]func(t api.Term) (bool, api.Code) {
	box := points(list("1 0"))
	return map[string]func(t api.Term) (bool, api.Code){
		"Check":  func(t api.Term) (bool, api.Code) { return true, jet.Check(t, 2) },
		"Size":   func(t api.Term) (bool, api.Code) { n, code := jet.Size(t, 2); return n == 0, code },
		"Value":  func(t api.Term) (bool, api.Code) { x, code := jet.Value(t, list("1 0")); return isBlank(x), code },
		"Ranges": func(t api.Term) (bool, api.Code) { a, code := jet.Ranges(t, box); return blankRange(a), code },
		"Jets":   func(t api.Term) (bool, api.Code) { j, code := jet.Jets(t, box, 2, 10); return blankJet(j), code },
		"Derive": func(t api.Term) (bool, api.Code) { d, code := jet.Derive(t, 2, 7); return len(d) == 0, code },
		"Compose": func(t api.Term) (bool, api.Code) {
			c, code := jet.Compose(t, make([]api.Term, 2), 99)
			return len(c) == 0, code
		},
	}
}

// blankJet reports whether j is the zero value.
func blankJet(j api.Jet) bool {
	return blankRange(j.Value) && len(j.Grad) == 0 && len(j.Hess) == 0
}

// P7.1: terms that are not valid, in the order of the errors.
func TestCheck(t *testing.T) {
	for what, c := range invalid() {
		for name, f := range functions() {
			if zero, code := f(c.t); code != c.code || !zero {
				t.Errorf("%s of %s: %d, want %d", name, what, code, c.code)
			}
		}
	}
	for _, u := range []api.Term{nil, term("x9"), term("#1"), slices.Repeat(term("0^2"), 500)} {
		for _, vars := range []int{-1, 65, math.MaxInt, math.MinInt} {
			n, code := jet.Size(u, vars)
			d, other := jet.Derive(u, vars, 0)
			if code != api.ErrRange || jet.Check(u, vars) != api.ErrRange || n != 0 || other != api.ErrRange || len(d) > 0 {
				t.Errorf("%d parameters: %d, %d", vars, code, other)
			}
		}
	}
}

// P7.1: what the limits allow.
func TestCheckLimits(t *testing.T) {
	long := slices.Repeat(term("#1"), 400)
	empty := api.TermNode{Op: api.TermVar, N: api.Rat{Num: api.Int{Groups: []uint32{}}, Den: api.Int{Groups: []uint32{}}}}
	for i, c := range []struct {
		t    api.Term
		vars int
	}{
		{long, 0},
		{long, 64},
		{term("x63"), 64},
		{api.Term{empty}, 1}, // nil and empty lists are equal
		{term("x0 0^2 1^2 2^2 3^2 4^2 5^2 6^2 7^2 8^2 9^2 10^2 11^2 -12"), 1},
		{term("#0 0:0"), 0},
	} {
		if code := jet.Check(c.t, c.vars); code != api.OK {
			t.Errorf("term %d: %d", i, code)
		}
	}
	if code := jet.Check(term("x0"), 0); code != api.ErrRange {
		t.Errorf("no parameters: %d", code)
	}
}

// P7.2, P7.3: points and boxes that are not valid come before the term, and also more than 64 of them.
func TestArguments(t *testing.T) {
	one := rat("1")
	bad := append(notCanonical(), api.Rat{})
	for _, x := range bad {
		for _, u := range []api.Term{nil, term("x5"), term("#1 #0 0:1"), term("x0")} {
			for _, at := range [][]api.Rat{{x}, {one, x}, {x, one}, append(slices.Repeat([]api.Rat{one}, 70), x)} {
				if y, code := jet.Value(u, at); code != api.ErrArgument || !isBlank(y) {
					t.Errorf("Value: %d", code)
				}
			}
			for _, a := range []api.Range{{Low: x, High: one}, {Low: one, High: x}, {Low: one, High: rat("0")}, {Low: x, High: x}} {
				for _, box := range [][]api.Range{{a}, {{Low: one, High: one}, a}, append(points(slices.Repeat([]api.Rat{one}, 70)), a)} {
					if y, code := jet.Ranges(u, box); code != api.ErrArgument || !blankRange(y) {
						t.Errorf("Ranges: %d", code)
					}
					// The order is wrong, too.
					for _, order := range []int{0, 1, 2, 3, -1} {
						if j, code := jet.Jets(u, box, order, 513); code != api.ErrArgument || !blankJet(j) {
							t.Errorf("Jets: %d", code)
						}
					}
				}
			}
		}
	}
	many := slices.Repeat([]api.Rat{one}, 65)
	_, first := jet.Value(term("x0"), many)
	_, second := jet.Ranges(term("x0"), points(many))
	_, third := jet.Jets(term("x0"), points(many), 1, 5)
	if first != api.ErrRange || second != api.ErrRange || third != api.ErrRange {
		t.Errorf("65 parameters: %d, %d, %d", first, second, third)
	}
}

// P7.3: orders and places come before the term.
func TestJetsErrors(t *testing.T) {
	box := points(list("0"))
	for _, u := range []api.Term{nil, term("x0"), term("#1 x0 0:1"), slices.Repeat(term("#1"), 401)} {
		for _, c := range [][2]int{{-1, 0}, {3, 0}, {math.MaxInt, 0}, {math.MinInt, -1}, {0, 513}, {2, math.MaxInt}, {3, 513}} {
			if j, code := jet.Jets(u, box, c[0], c[1]); code != api.ErrRange || !blankJet(j) {
				t.Errorf("Jets(%d nodes, %d): %d", len(u), c, code)
			}
		}
	}
	for _, places := range []int{-1, math.MinInt, 0, 512} {
		if _, code := jet.Jets(term("x0 0^2"), box, 2, places); code != api.OK {
			t.Errorf("Jets with %d places: %d", places, code)
		}
		if _, code := jet.Jets(term("#1 x0 0:1"), box, 1, places); code != api.ErrSingular {
			t.Errorf("Jets with %d places: %d", places, code)
		}
	}
}

// P7.6: parameters by which there is no derivative.
func TestDeriveErrors(t *testing.T) {
	for _, c := range []struct{ vars, i int }{{0, 0}, {1, 1}, {1, -1}, {64, 64}, {2, math.MaxInt}, {2, math.MinInt}} {
		if d, code := jet.Derive(term("#1"), c.vars, c.i); code != api.ErrRange || len(d) > 0 {
			t.Errorf("Derive by %d of %d: %d", c.i, c.vars, code)
		}
	}
	if d, code := jet.Derive(term("x63 0^2"), 64, 63); code != api.OK {
		t.Errorf("Derive: %d", code)
	} else if x, code := jet.Value(d, slices.Repeat(list("5"), 64)); fraction.Text(x) != "10" || code != api.OK {
		t.Errorf("Derive = %s: %s, %d", termText(d), fraction.Text(x), code)
	}
}
