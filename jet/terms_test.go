package jet_test

import (
	"fmt"
	"math"
	"math/rand"
	"slices"
	"testing"

	"fiducial/api"
	"fiducial/fraction"
	"fiducial/jet"
)

// P7.4, P7.6: derivatives, and the derivatives of these, where the term has a value.
func TestDerive(t *testing.T) {
	compared, beyond := 0, 0
	some(2000, 12, 3, func(r *rand.Rand, u api.Term, vars int) {
		if vars == 0 {
			return
		}
		i, k := r.Intn(vars), r.Intn(vars)
		first, code := jet.Derive(u, vars, i)
		if code == api.ErrLimit {
			beyond++
			return
		}
		if code != api.OK {
			t.Fatalf("Derive(%s): %d", termText(u), code)
		}
		valid(t, "Derive", first, vars)
		second, code := jet.Derive(first, vars, k)
		if code != api.OK && code != api.ErrLimit {
			t.Fatalf("Derive(%s): %d", termText(first), code)
		}
		for range 4 {
			at := randomPoint(r, vars)
			p, ok := seriesOf(u, at, i, k)
			if !ok {
				continue
			}
			compared++
			if x, code := jet.Value(first, at); code != api.OK || fraction.Compare(x, ofBig(p[1])) != 0 {
				t.Fatalf("Derive(%s, %d) = %s at %s: %s, %d", termText(u), i, termText(first), listText(at), fraction.Text(x), code)
			}
			if second == nil {
				continue
			}
			if x, code := jet.Value(second, at); code != api.OK || fraction.Compare(x, ofBig(p[4])) != 0 {
				t.Fatalf("Derive(Derive(%s, %d), %d) = %s at %s: %s, %d", termText(u), i, k, termText(second), listText(at), fraction.Text(x), code)
			}
		}
	})
	if compared < 1000 || beyond > 100 {
		t.Errorf("%d compared, %d beyond the limits", compared, beyond)
	}
	for _, c := range [][4]string{{example, "2 3", "7", "2"}, {"x0 x1 0:1", "1 2", "1/2", "-1/4"}, {"#5", "1 1", "0", "0"}, {"x1", "1 1", "0", "1"}, {"x0 -0 x1", "2 2", "0", "1"}, {"x0 x0 0*1", "5 0", "10", "0"}} {
		for i := range 2 {
			d, code := jet.Derive(term(c[0]), 2, i)
			if x, other := jet.Value(d, list(c[1])); fraction.Text(x) != c[2+i] || code != api.OK || other != api.OK {
				t.Errorf("Derive(%s, %d) = %s: %s, %d, %d", c[0], i, termText(d), fraction.Text(x), code, other)
			}
		}
	}
}

// P7.6: the rules of sums, products and quotients.
func TestDeriveRules(t *testing.T) {
	compared := 0
	some(600, 6, 3, func(r *rand.Rand, u api.Term, vars int) {
		if vars == 0 {
			return
		}
		v, i, at := random(r, 1+r.Intn(6), vars), r.Intn(vars), randomPoint(r, vars)
		value := func(t api.Term) (api.Rat, bool) {
			x, code := jet.Value(t, at)
			return x, code == api.OK
		}
		slope := func(t api.Term) api.Rat {
			d, _ := jet.Derive(t, vars, i)
			x, _ := value(d)
			return x
		}
		joined := func(op api.TermOp) api.Term {
			t, _ := jet.Compose(api.Term{parameter(0), parameter(1), node(op, 0, 1)}, []api.Term{u, v}, vars)
			return t
		}
		x, first := value(u)
		y, second := value(v)
		if !first || !second {
			return
		}
		compared++
		dx, dy := slope(u), slope(v)
		product := fraction.Add(fraction.Mul(x, dy), fraction.Mul(y, dx))
		is := func(op api.TermOp, want api.Rat) {
			if got := slope(joined(op)); fraction.Compare(got, want) != 0 {
				t.Fatalf("operator %d of %s and %s by x%d at %s: %s, want %s", op, termText(u), termText(v), i, listText(at), fraction.Text(got), fraction.Text(want))
			}
		}
		is(api.TermAdd, fraction.Add(dx, dy))
		is(api.TermSub, fraction.Sub(dx, dy))
		is(api.TermMul, product)
		if fraction.Sign(y) != 0 {
			quotient, _ := fraction.Divide(fraction.Sub(fraction.Mul(dx, y), fraction.Mul(x, dy)), fraction.Mul(y, y))
			is(api.TermDiv, quotient)
		}
	})
	if compared < 100 {
		t.Errorf("only %d compared", compared)
	}
}

// P7.6: terms for which Derive has no ErrLimit: 30 nodes, a size of 40, 3 quotients or squares.
func TestDeriveSmall(t *testing.T) {
	check := func(u api.Term, vars int) {
		t.Helper()
		valid(t, "the term", u, vars)
		for i := range vars {
			d, code := jet.Derive(u, vars, i)
			if code != api.OK {
				t.Fatalf("Derive(%s, %d): %d", termText(u), i, code)
			}
			valid(t, "Derive", d, vars)
		}
	}
	r := rand.New(rand.NewSource(11))
	for range 3000 {
		u := api.Term{parameter(0), parameter(1)}
		special := 0
		for tries := 0; len(u) < 30 && tries < 200; tries++ {
			n := randomNode(r, len(u), 2)
			isSpecial := n.Op == api.TermDiv || n.Op == api.TermSquare
			if size, code := jet.Size(append(u, n), 2); code == api.OK && size <= 40 && !(isSpecial && special == 3) {
				u = append(u, n)
				if isSpecial {
					special++
				}
			}
		}
		check(u, 2)
	}
	// Chains of products and of quotients, with the greatest depth; nodes of a great size that the last one does not need.
	for _, op := range []api.TermOp{api.TermMul, api.TermDiv} {
		for _, last := range []bool{false, true} {
			u := api.Term{parameter(0)}
			for len(u) < 30 {
				n := node(api.TermMul, len(u)-1, 0)
				if op == api.TermDiv && len(u) > 26 {
					n.Op = op
				}
				if last {
					n.A, n.B = n.B, n.A
				}
				u = append(u, n)
			}
			check(u, 1)
		}
	}
	u := api.Term{parameter(0)}
	for len(u) < 13 {
		u = append(u, node(api.TermMul, len(u)-1, len(u)-1))
	}
	u = append(u, node(api.TermSquare, 4, 0), node(api.TermAdd, 13, 3))
	check(u, 1)
}

// P7.6: long terms have derivatives as long as these are not too long; it is always valid, or ErrLimit.
func TestDeriveLong(t *testing.T) {
	chain := func(op api.TermOp, n int) api.Term {
		u := api.Term{parameter(0), parameter(1)}
		for len(u) < n {
			u = append(u, node(op, len(u)-1, 0))
		}
		return u
	}
	for _, c := range []struct {
		t    api.Term
		code api.Code
	}{
		{chain(api.TermAdd, 400), api.OK},
		{chain(api.TermMul, 80), api.OK},
		{chain(api.TermMul, 400), api.ErrLimit},
		{append(chain(api.TermMul, 399), parameter(0)), api.OK},
	} {
		d, code := jet.Derive(c.t, 2, 0)
		if code != c.code || code != api.OK && len(d) > 0 {
			t.Errorf("Derive of %d nodes: %d nodes, %d", len(c.t), len(d), code)
		}
		if code == api.OK {
			valid(t, "Derive", d, 2)
		}
	}
	// The size is the limit: a square of the size 4096 has a derivative of more.
	u := api.Term{parameter(0)}
	for len(u) < 13 {
		u = append(u, node(api.TermSquare, len(u)-1, 0))
	}
	if d, code := jet.Derive(u, 1, 0); code == api.OK {
		valid(t, "Derive", d, 1)
	} else if code != api.ErrLimit || len(d) > 0 {
		t.Errorf("Derive: %d", code)
	}
}

// P7.6: Compose and Value.
func TestCompose(t *testing.T) {
	defined, singular := 0, 0
	some(2000, 10, 3, func(r *rand.Rand, u api.Term, count int) {
		vars := r.Intn(4)
		at := randomPoint(r, vars)
		subs := make([]api.Term, count)
		values := make([]api.Rat, count)
		for i := range subs {
			subs[i] = random(r, 1+r.Intn(6), vars)
			x, code := jet.Value(subs[i], at)
			if code != api.OK {
				return
			}
			values[i] = x
		}
		c, code := jet.Compose(u, subs, vars)
		if code != api.OK {
			if code != api.ErrLimit {
				t.Fatalf("Compose(%s): %d", termText(u), code)
			}
			return
		}
		valid(t, "Compose", c, vars)
		want, code := jet.Value(u, values)
		if last := u[len(u)-1]; last.Op == api.TermVar {
			want, code = values[last.A], api.OK
		}
		got, other := jet.Value(c, at)
		if other != code || listText([]api.Rat{got}) != listText([]api.Rat{want}) {
			t.Fatalf("Compose(%s, %d terms) = %s at %s: %s, %d, want %s, %d", termText(u), count, termText(c), listText(at), fraction.Text(got), other, fraction.Text(want), code)
		}
		if code == api.OK {
			defined++
		} else {
			singular++
		}
	})
	if defined < 500 || singular < 50 {
		t.Errorf("%d values, %d times none", defined, singular)
	}
	for _, c := range []struct {
		t    string
		subs []string
		want string // at 2, 3
	}{
		{"x0 x1 0*1", []string{"x0 x1 0+1", "x1 x0 0-1"}, "5"},
		{"x1", []string{"x0 0^2", "x1 0^2"}, "9"},
		{"x0", []string{"x0 0^2", "x1 0^2"}, "4"},
		{"#7 x1 x0", []string{"x1", "#3/4"}, "3"},
		{"#7", nil, "7"},
		{"x0 0^2 x0 1-2", []string{"x0 x1 0:1"}, "-2/9"},
	} {
		var subs []api.Term
		for _, s := range c.subs {
			subs = append(subs, term(s))
		}
		u, code := jet.Compose(term(c.t), subs, 2)
		if x, other := jet.Value(u, list("2 3")); fraction.Text(x) != c.want || code != api.OK || other != api.OK {
			t.Errorf("Compose(%s, %s) = %s: %s, %d, %d", c.t, c.subs, termText(u), fraction.Text(x), code, other)
		}
	}
}

// P7.6: the limits of Compose are those of the list of all nodes.
func TestComposeLimits(t *testing.T) {
	negatives := func(first api.TermNode, n int) api.Term {
		u := api.Term{first}
		for len(u) < n {
			u = append(u, node(api.TermNeg, len(u)-1, 0))
		}
		return u
	}
	squares := func(n int) api.Term {
		u := api.Term{parameter(0)}
		for range n {
			u = append(u, node(api.TermSquare, len(u)-1, 0))
		}
		return u
	}
	long := negatives(parameter(0), 200)
	for i, c := range []struct {
		t    api.Term
		subs []api.Term
		code api.Code
	}{
		{term("x0 -0"), []api.Term{negatives(parameter(0), 399)}, api.OK},
		{term("x0 -0"), []api.Term{negatives(parameter(0), 400)}, api.ErrLimit},
		{term("x0"), []api.Term{negatives(parameter(0), 400)}, api.OK},
		{term("x0"), []api.Term{long, long}, api.OK},
		{term("x1"), []api.Term{long, long}, api.OK},
		{term("x0 x1 x0"), []api.Term{long, long}, api.OK},
		// The list counts, even if its nodes are not needed.
		{term("x0 #1 x0"), []api.Term{long, long}, api.ErrLimit},
		{term("x0 0:0 x0"), []api.Term{negatives(parameter(0), 399)}, api.OK},
		{term("#1"), []api.Term{long, long}, api.ErrLimit},
		{negatives(parameter(0), 400), []api.Term{term("x0")}, api.OK},
		{negatives(parameter(0), 400), []api.Term{term("x0 -0")}, api.ErrLimit},
		// Sizes.
		{squares(6), []api.Term{squares(6)}, api.OK},
		{squares(6), []api.Term{squares(7)}, api.ErrLimit},
		{append(squares(6), parameter(0)), []api.Term{squares(7)}, api.ErrLimit},
		{append(squares(6), api.TermNode{Op: api.TermConst, N: rat("1")}), []api.Term{squares(7)}, api.ErrLimit},
		{squares(12), []api.Term{term("#3")}, api.OK},
	} {
		u, code := jet.Compose(c.t, c.subs, 1)
		if code != c.code || code != api.OK && len(u) > 0 {
			t.Errorf("case %d: %d, want %d", i, code, c.code)
			continue
		}
		if code == api.OK {
			valid(t, "Compose", u, 1)
		}
	}
}

// P7.6: the errors of Compose in their order.
func TestComposeErrors(t *testing.T) {
	good, bad, late := term("x0"), term("x0 0+1"), api.Term{number("1"), parameter(64)}
	full := slices.Repeat([]api.TermNode{number("1")}, 400)
	for i, c := range []struct {
		t    api.Term
		subs []api.Term
		vars int
		code api.Code
	}{
		{bad, []api.Term{nil}, 1, api.ErrOrder},
		{good, nil, 1, api.ErrRange},
		{term("x1"), []api.Term{nil}, 1, api.ErrRange},
		{good, slices.Repeat([]api.Term{nil}, 65), 1, api.ErrRange},
		{nil, []api.Term{good}, 1, api.ErrArgument},
		{good, []api.Term{nil, bad}, 1, api.ErrArgument},
		{good, []api.Term{good, bad, nil}, 1, api.ErrOrder},
		{good, []api.Term{good, late, bad}, 1, api.ErrRange},
		{good, []api.Term{full, full, bad}, 1, api.ErrOrder},
		{good, []api.Term{full, full}, 1, api.ErrLimit},
		{good, []api.Term{good, good}, 0, api.ErrRange},
		{good, []api.Term{good}, -1, api.ErrRange},
		{good, []api.Term{good}, 65, api.ErrRange},
		{good, []api.Term{good}, math.MaxInt, api.ErrRange},
		{term("#2"), nil, 65, api.OK}, // no term is asked for its parameters
	} {
		if u, code := jet.Compose(c.t, c.subs, c.vars); code != c.code || code != api.OK && len(u) > 0 {
			t.Errorf("case %d: %d nodes, %d, want %d", i, len(u), code, c.code)
		}
	}
}

// The arguments stay as they are, and results are new memory, which they do not share with one another.
func TestNothingIsShared(t *testing.T) {
	some(300, 10, 3, func(r *rand.Rand, u api.Term, vars int) {
		for k := range u {
			if u[k].Op != api.TermConst {
				// The zero value, but with memory of its own.
				u[k].N.Num.Groups = make([]uint32, 0, 2)
			}
		}
		at, box := randomPoint(r, vars), randomBox(r, vars)
		subs := slices.Repeat([]api.Term{u}, vars)
		full := func() string { return fmt.Sprint(u, at, box, memory(u)) }
		before := full()
		for i, call := range calls(u, subs, at, box) {
			parts := call()
			for n := range parts {
				others := slices.Concat(parts[:n], parts[n+1:])
				saved := fmt.Sprint(others)
				spoil(parts[n])
				if fmt.Sprint(others) != saved {
					t.Fatalf("parts of result %d for %s share memory", i, before)
				}
			}
			if full() != before {
				t.Fatalf("call %d changes %s", i, before)
			}
		}
	})
}

// memory has all that is behind the ends of the lists of a term.
func memory(t api.Term) [][]uint32 {
	var all [][]uint32
	for _, n := range t {
		all = append(all, n.N.Num.Groups[:cap(n.N.Num.Groups)], n.N.Den.Groups[:cap(n.N.Den.Groups)])
	}
	return all
}

// calls are the functions with fractions in their results, which return these.
func calls(u api.Term, subs []api.Term, at []api.Rat, box []api.Range) []func() []api.Rat {
	numbers := func(t api.Term) []api.Rat {
		var l []api.Rat
		for _, n := range t {
			l = append(l, n.N)
		}
		return l
	}
	ends := func(list ...api.Range) []api.Rat {
		var l []api.Rat
		for _, a := range list {
			l = append(l, a.Low, a.High)
		}
		return l
	}
	jets := func(places int) []api.Rat {
		j, _ := jet.Jets(u, box, 2, places)
		l := slices.Concat(ends(j.Value), ends(j.Grad...))
		for _, row := range j.Hess {
			l = append(l, ends(row...)...)
		}
		return l
	}
	return []func() []api.Rat{
		func() []api.Rat { x, _ := jet.Value(u, at); return []api.Rat{x} },
		func() []api.Rat { a, _ := jet.Ranges(u, box); return ends(a) },
		func() []api.Rat { return jets(-1) },
		func() []api.Rat { return jets(4) },
		func() []api.Rat { d, _ := jet.Derive(u, len(at), 0); return numbers(d) },
		func() []api.Rat { c, _ := jet.Compose(u, subs, len(at)); return numbers(c) },
	}
}

// spoil overwrites the memory of a number.
func spoil(x api.Rat) {
	for _, groups := range [][]uint32{x.Num.Groups, x.Den.Groups} {
		for i := range groups {
			groups[i] = 987654321
		}
		_ = append(groups, 987654321)
	}
}
