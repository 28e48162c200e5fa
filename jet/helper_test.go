package jet_test

import (
	"fmt"
	"math/big"
	"math/rand"
	"slices"
	"strings"
	"testing"

	"fiducial/api"
	"fiducial/fraction"
	"fiducial/integer"
	"fiducial/jet"
)

// rat is the fraction with a text.
func rat(s string) api.Rat {
	z, ok := new(big.Rat).SetString(s)
	if !ok {
		panic(s + " is no fraction")
	}
	return ofBig(z)
}

// list is the list of the fractions with some texts, separated by spaces.
func list(s string) []api.Rat {
	var l []api.Rat
	for _, x := range strings.Fields(s) {
		l = append(l, rat(x))
	}
	return l
}

// bigOf is the value of x, which is canonical.
func bigOf(x api.Rat) *big.Rat {
	num, _ := new(big.Int).SetString(integer.Text(x.Num), 10)
	den, _ := new(big.Int).SetString(integer.Text(x.Den), 10)
	return new(big.Rat).SetFrac(num, den)
}

// ofBig is the canonical fraction with the value of z.
func ofBig(z *big.Rat) api.Rat {
	return api.Rat{Num: ofInt(z.Num()), Den: ofInt(z.Denom())}
}

// ofInt is the canonical integer with the value of z.
func ofInt(z *big.Int) api.Int {
	x := api.Int{Negative: z.Sign() < 0}
	rest, group, billion := new(big.Int).Abs(z), new(big.Int), big.NewInt(1_000_000_000)
	for rest.Sign() > 0 {
		rest.QuoRem(rest, billion, group)
		x.Groups = append(x.Groups, uint32(group.Int64()))
	}
	return x
}

// number is the node of a constant, parameter the node of a parameter, node a node with kids.
func number(s string) api.TermNode { return api.TermNode{Op: api.TermConst, N: rat(s)} }

func parameter(i int) api.TermNode { return api.TermNode{Op: api.TermVar, A: i} }

func node(op api.TermOp, a, b int) api.TermNode { return api.TermNode{Op: op, A: a, B: b} }

// term reads a term: a node is a fraction, a parameter "x0", or an operator with its kids, as in "0*1", "-2" or "3^2"; numbers with a sign have a leading "#".
func term(s string) api.Term {
	var t api.Term
	for _, word := range strings.Fields(s) {
		t = append(t, wordNode(word))
	}
	return t
}

func wordNode(word string) api.TermNode {
	a, b := 0, 0
	switch {
	case word[0] == '#':
		return number(word[1:])
	case word[0] == 'x':
		fmt.Sscanf(word, "x%d", &a)
		return parameter(a)
	case word[0] == '-':
		fmt.Sscanf(word, "-%d", &a)
		return node(api.TermNeg, a, 0)
	case strings.HasSuffix(word, "^2"):
		fmt.Sscanf(word, "%d^2", &a)
		return node(api.TermSquare, a, 0)
	}
	k := strings.IndexAny(word, "+-*:")
	fmt.Sscan(word[:k], &a)
	fmt.Sscan(word[k+1:], &b)
	op := map[byte]api.TermOp{'+': api.TermAdd, '-': api.TermSub, '*': api.TermMul, ':': api.TermDiv}[word[k]]
	return node(op, a, b)
}

// termText is the text that term reads.
func termText(t api.Term) string {
	var words []string
	for _, n := range t {
		switch n.Op {
		case api.TermConst:
			words = append(words, "#"+fraction.Text(n.N))
		case api.TermVar:
			words = append(words, fmt.Sprintf("x%d", n.A))
		case api.TermNeg:
			words = append(words, fmt.Sprintf("-%d", n.A))
		case api.TermSquare:
			words = append(words, fmt.Sprintf("%d^2", n.A))
		default:
			words = append(words, fmt.Sprintf("%d%c%d", n.A, "??+-*:"[n.Op], n.B))
		}
	}
	return strings.Join(words, " ")
}

// listText has the texts of the elements of a list; what is not canonical is marked.
func listText(l []api.Rat) string {
	var s []string
	for _, x := range l {
		if !fraction.Valid(x) {
			s = append(s, "?")
			continue
		}
		s = append(s, fraction.Text(x))
	}
	return strings.Join(s, " ")
}

// rangeText is the text of an interval, boxText that of a list of intervals.
func rangeText(a api.Range) string { return "[" + listText([]api.Rat{a.Low, a.High}) + "]" }

func boxText(l []api.Range) string {
	var s []string
	for _, a := range l {
		s = append(s, rangeText(a))
	}
	return strings.Join(s, " ")
}

// jetText is the text of a jet.
func jetText(j api.Jet) string {
	s := rangeText(j.Value) + " | " + boxText(j.Grad) + " |"
	for _, row := range j.Hess {
		s += " " + boxText(row) + ";"
	}
	return s
}

// points is the box of some points.
func points(at []api.Rat) []api.Range {
	var box []api.Range
	for _, x := range at {
		box = append(box, api.Range{Low: x, High: x})
	}
	return box
}

// notCanonical are values that are no fractions; the zero value of api.Rat is not among them.
func notCanonical() []api.Rat {
	return []api.Rat{
		{Num: integer.Of(1)},
		{Num: integer.Of(2), Den: integer.Of(6)},
		{Num: integer.Of(1), Den: integer.Of(-1)},
		{Num: api.Int{Groups: []uint32{5, 0}}, Den: integer.Of(1)},
		{Num: api.Int{Groups: []uint32{1_000_000_000}}, Den: integer.Of(1)},
		{Num: api.Int{Negative: true}, Den: integer.Of(1)},
	}
}

// isBlank reports whether x is the zero value.
func isBlank(x api.Rat) bool {
	return !x.Num.Negative && !x.Den.Negative && len(x.Num.Groups) == 0 && len(x.Den.Groups) == 0
}

// blankRange reports whether a is the zero value.
func blankRange(a api.Range) bool {
	return isBlank(a.Low) && isBlank(a.High)
}

// small returns a fraction; some are 0, some have long parts.
func small(r *rand.Rand) api.Rat {
	switch r.Intn(12) {
	case 0:
		return fraction.Whole(0)
	case 1:
		return ofBig(big.NewRat(r.Int63()-1<<62, 1+r.Int63()))
	}
	return ofBig(big.NewRat(int64(r.Intn(25)-12), int64(1+r.Intn(5))))
}

// random returns a term with so many nodes over so many parameters, as far as its size is within the limit.
func random(r *rand.Rand, nodes, vars int) api.Term {
	var t api.Term
	for len(t) < nodes {
		n := randomNode(r, len(t), vars)
		if len(t) == 0 || r.Intn(4) == 0 {
			n = leaf(r, vars)
		}
		if jet.Check(append(t, n), vars) == api.OK {
			t = append(t, n)
		}
	}
	return t
}

// leaf returns a node without kids.
func leaf(r *rand.Rand, vars int) api.TermNode {
	if vars == 0 || r.Intn(3) == 0 {
		return api.TermNode{Op: api.TermConst, N: small(r)}
	}
	return parameter(r.Intn(vars))
}

// randomNode returns a node behind others, often with the last one as a kid.
func randomNode(r *rand.Rand, earlier, vars int) api.TermNode {
	if earlier == 0 {
		return leaf(r, vars)
	}
	op := api.TermAdd + api.TermOp(r.Intn(6))
	a, b := r.Intn(earlier), r.Intn(earlier)
	if r.Intn(2) == 0 {
		a = earlier - 1
	}
	if r.Intn(2) == 0 {
		a, b = b, a
	}
	if op == api.TermNeg || op == api.TermSquare {
		b = 0
	}
	return node(op, a, b)
}

// randomBox returns a box; some intervals are points.
func randomBox(r *rand.Rand, vars int) []api.Range {
	box := make([]api.Range, vars)
	for i := range box {
		x, y := small(r), small(r)
		switch r.Intn(3) {
		case 0:
			y = fraction.Value(x)
		case 1:
			width, _ := fraction.Of(r.Intn(100), 1000)
			y = fraction.Add(x, width)
		}
		if fraction.Compare(x, y) > 0 {
			x, y = y, x
		}
		box[i] = api.Range{Low: x, High: y}
	}
	return box
}

// within returns a point of a box; some coordinates are ends.
func within(r *rand.Rand, box []api.Range) []api.Rat {
	at := make([]api.Rat, len(box))
	for i, a := range box {
		part, _ := fraction.Of(r.Intn(5), 4)
		at[i] = fraction.Add(a.Low, fraction.Mul(part, fraction.Sub(a.High, a.Low)))
	}
	return at
}

// randomPoint returns a point.
func randomPoint(r *rand.Rand, vars int) []api.Rat {
	at := make([]api.Rat, vars)
	for i := range at {
		at[i] = small(r)
	}
	return at
}

// some calls check with many terms.
func some(rounds, nodes, vars int, check func(r *rand.Rand, t api.Term, vars int)) {
	r := rand.New(rand.NewSource(7))
	for range rounds {
		v := r.Intn(vars + 1)
		check(r, random(r, 1+r.Intn(nodes), v), v)
	}
}

// span is an interval of the numbers of math/big.
type span struct{ low, high *big.Rat }

func spanOf(a api.Range) span { return span{bigOf(a.Low), bigOf(a.High)} }

func whole(n int64) span { return span{big.NewRat(n, 1), big.NewRat(n, 1)} }

// spread is the span of some numbers.
func spread(l ...*big.Rat) span {
	return span{slices.MinFunc(l, (*big.Rat).Cmp), slices.MaxFunc(l, (*big.Rat).Cmp)}
}

func (a span) plus(b span) span {
	return span{new(big.Rat).Add(a.low, b.low), new(big.Rat).Add(a.high, b.high)}
}

func (a span) negative() span { return span{new(big.Rat).Neg(a.high), new(big.Rat).Neg(a.low)} }

func (a span) minus(b span) span { return a.plus(b.negative()) }

func (a span) times(b span) span {
	var l []*big.Rat
	for _, x := range []*big.Rat{a.low, a.high} {
		for _, y := range []*big.Rat{b.low, b.high} {
			l = append(l, new(big.Rat).Mul(x, y))
		}
	}
	return spread(l...)
}

func (a span) hasZero() bool { return a.low.Sign() <= 0 && a.high.Sign() >= 0 }

func (a span) square() span {
	s := spread(new(big.Rat).Mul(a.low, a.low), new(big.Rat).Mul(a.high, a.high))
	if a.hasZero() {
		s.low = new(big.Rat)
	}
	return s
}

func (a span) over(b span) span {
	return a.times(span{new(big.Rat).Inv(b.high), new(big.Rat).Inv(b.low)})
}

// rounded rounds outwards to multiples of 2^-places.
func (a span) rounded(places int) span {
	if places < 0 {
		return a
	}
	unit := new(big.Int).Lsh(big.NewInt(1), uint(places))
	down := func(x *big.Rat) *big.Rat {
		n := new(big.Int).Mul(x.Num(), unit)
		return new(big.Rat).SetFrac(n.Div(n, x.Denom()), unit)
	}
	return span{down(a.low), new(big.Rat).Neg(down(new(big.Rat).Neg(a.high)))}
}

func (a span) interval() api.Range { return api.Range{Low: ofBig(a.low), High: ofBig(a.high)} }

// spans is the jet of a node.
type spans struct {
	value span
	grad  []span
	hess  [][]span
}

// jetsOf follows the rules of the chapter for every node and all parameters; the result is false if a divisor contains 0.
func jetsOf(t api.Term, box []api.Range, order, places int) (api.Jet, bool) {
	jets := make([]spans, len(t))
	for k, n := range t {
		value, first, second, ok := rules(t, jets, k, box)
		if !ok {
			return api.Jet{}, false
		}
		j := &jets[k]
		j.value = value().rounded(places)
		for i := range box {
			j.grad = append(j.grad, first(i).rounded(places))
		}
		for i := range box {
			var row []span
			for l := range i + 1 {
				if order < 2 || n.Op == api.TermConst || n.Op == api.TermVar {
					row = append(row, whole(0))
				} else {
					row = append(row, second(i, l).rounded(places))
				}
			}
			j.hess = append(j.hess, row)
		}
	}
	last := jets[len(t)-1]
	result := api.Jet{Value: last.value.interval()}
	for i := range box {
		if order >= 1 {
			result.Grad = append(result.Grad, last.grad[i].interval())
		}
		if order == 2 {
			var row []api.Range
			for _, a := range last.hess[i] {
				row = append(row, a.interval())
			}
			result.Hess = append(result.Hess, row)
		}
	}
	return result, true
}

// rules are the lines of the table of the chapter, for the node k.
func rules(t api.Term, jets []spans, k int, box []api.Range) (value func() span, first func(i int) span, second func(i, j int) span, ok bool) {
	n, two := t[k], whole(2)
	if n.Op == api.TermConst || n.Op == api.TermVar {
		value = func() span {
			if n.Op == api.TermConst {
				return span{bigOf(n.N), bigOf(n.N)}
			}
			return spanOf(box[n.A])
		}
		first = func(i int) span {
			if n.Op == api.TermVar && i == n.A {
				return whole(1)
			}
			return whole(0)
		}
		return value, first, nil, true
	}
	u, v, w := jets[n.A], jets[n.B], &jets[k]
	switch n.Op {
	case api.TermAdd:
		return func() span { return u.value.plus(v.value) }, func(i int) span { return u.grad[i].plus(v.grad[i]) }, func(i, j int) span { return u.hess[i][j].plus(v.hess[i][j]) }, true
	case api.TermSub:
		return func() span { return u.value.minus(v.value) }, func(i int) span { return u.grad[i].minus(v.grad[i]) }, func(i, j int) span { return u.hess[i][j].minus(v.hess[i][j]) }, true
	case api.TermNeg:
		return u.value.negative, func(i int) span { return u.grad[i].negative() }, func(i, j int) span { return u.hess[i][j].negative() }, true
	case api.TermMul:
		return func() span { return u.value.times(v.value) },
			func(i int) span { return u.value.times(v.grad[i]).plus(v.value.times(u.grad[i])) },
			func(i, j int) span {
				return u.value.times(v.hess[i][j]).plus(v.value.times(u.hess[i][j])).plus(u.grad[i].times(v.grad[j])).plus(u.grad[j].times(v.grad[i]))
			}, true
	case api.TermSquare:
		return u.value.square, func(i int) span { return two.times(u.value.times(u.grad[i])) }, func(i, j int) span {
			if i == j {
				return two.times(u.value.times(u.hess[i][i]).plus(u.grad[i].square()))
			}
			return two.times(u.value.times(u.hess[i][j]).plus(u.grad[i].times(u.grad[j])))
		}, true
	}
	return func() span { return u.value.over(v.value) },
		func(i int) span { return u.grad[i].minus(w.value.times(v.grad[i])).over(v.value) },
		func(i, j int) span {
			return u.hess[i][j].minus(w.grad[i].times(v.grad[j])).minus(w.grad[j].times(v.grad[i])).minus(w.value.times(v.hess[i][j])).over(v.value)
		}, !v.value.hasZero()
}

// series is a polynomial in two small numbers a and b without the powers above 2: the coefficients of 1, a, b, a a, a b, b b.
type series [6]*big.Rat

func constant(x *big.Rat) series {
	return series{x, new(big.Rat), new(big.Rat), new(big.Rat), new(big.Rat), new(big.Rat)}
}

func (p series) each(operation func(x *big.Rat, k int) *big.Rat) series {
	var r series
	for k, x := range p {
		r[k] = operation(x, k)
	}
	return r
}

func (p series) plus(q series) series {
	return p.each(func(x *big.Rat, k int) *big.Rat { return new(big.Rat).Add(x, q[k]) })
}

func (p series) negative() series {
	return p.each(func(x *big.Rat, _ int) *big.Rat { return new(big.Rat).Neg(x) })
}

func (p series) times(q series) series {
	powers := [6][2]int{{0, 0}, {1, 0}, {0, 1}, {2, 0}, {1, 1}, {0, 2}}
	r := constant(new(big.Rat))
	for i, x := range p {
		for k, y := range q {
			to := slices.Index(powers[:], [2]int{powers[i][0] + powers[k][0], powers[i][1] + powers[k][1]})
			if to >= 0 {
				r[to].Add(r[to], new(big.Rat).Mul(x, y))
			}
		}
	}
	return r
}

// inverse returns 1 / p: with p = c (1 - e) this is (1 + e + e e) / c.
func (p series) inverse() series {
	c := constant(new(big.Rat).Inv(p[0]))
	one := constant(big.NewRat(1, 1))
	e := one.plus(p.times(c).negative())
	return one.plus(e).plus(e.times(e)).times(c)
}

// seriesOf returns the expansion of t when a is added to the parameter i, and b to the parameter j, which may be the same: the coefficient of a b is the second derivative. The result is false where t has no value.
func seriesOf(t api.Term, at []api.Rat, i, j int) (series, bool) {
	values := make([]series, len(t))
	for k, n := range t {
		switch n.Op {
		case api.TermConst:
			values[k] = constant(bigOf(n.N))
		case api.TermVar:
			p := constant(bigOf(at[n.A]))
			if n.A == i {
				p[1] = big.NewRat(1, 1)
			}
			if n.A == j {
				p[2] = big.NewRat(1, 1)
			}
			values[k] = p
		case api.TermAdd:
			values[k] = values[n.A].plus(values[n.B])
		case api.TermSub:
			values[k] = values[n.A].plus(values[n.B].negative())
		case api.TermMul:
			values[k] = values[n.A].times(values[n.B])
		case api.TermNeg:
			values[k] = values[n.A].negative()
		case api.TermSquare:
			values[k] = values[n.A].times(values[n.A])
		case api.TermDiv:
			if values[n.B][0].Sign() == 0 {
				return series{}, false
			}
			values[k] = values[n.A].times(values[n.B].inverse())
		}
	}
	return values[len(t)-1], true
}

// valueOf returns the value of t, and false where it has none.
func valueOf(t api.Term, at []api.Rat) (*big.Rat, bool) {
	p, ok := seriesOf(t, at, -1, -1)
	return p[0], ok
}

// valid fails the test if a term is not valid over so many parameters.
func valid(tt *testing.T, what string, t api.Term, vars int) {
	tt.Helper()
	if code := jet.Check(t, vars); code != api.OK {
		tt.Fatalf("%s: %s is not valid: %d", what, termText(t), code)
	}
}
