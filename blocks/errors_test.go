package blocks_test

import (
	"fmt"
	"math"
	"math/rand"
	"slices"
	"testing"

	"fiducial/api"
	"fiducial/blocks"
)

// invalid are systems that are not valid, with the code of the first error; each one has the errors of all that come behind it, too, where both can be.
func invalid() map[string]struct {
	s    api.System
	code api.Code
} {
	one := []api.Block{block(0, 0, "1")}
	many := slices.Repeat([]int{1}, 13)
	type c = struct {
		s    api.System
		code api.Code
	}
	return map[string]c{
		"no block rows":          {api.System{}, api.ErrLimit},
		"no block rows, a block": {api.System{Blocks: one, Right: list("1")}, api.ErrLimit},
		"13 block rows":          {api.System{Sizes: many, Blocks: []api.Block{block(9, 11, "1 2")}}, api.ErrLimit},
		"size 0":                 {api.System{Sizes: []int{1, 0}, Blocks: one, Right: list("1")}, api.ErrLimit},
		"size 13":                {api.System{Sizes: []int{13}, Blocks: one}, api.ErrLimit},
		"size -1":                {api.System{Sizes: []int{3, -1}, Right: list("1 2")}, api.ErrLimit},
		"greatest size":          {api.System{Sizes: []int{math.MaxInt, math.MaxInt}}, api.ErrLimit},
		"least size":             {api.System{Sizes: []int{math.MinInt, math.MinInt, 1}, Right: list("1")}, api.ErrLimit},
		"65 unknowns":            {api.System{Sizes: []int{12, 12, 12, 12, 12, 5}, Blocks: []api.Block{block(6, 0, "1")}}, api.ErrLimit},
		"column below 0":         {api.System{Sizes: []int{1, 1}, Blocks: []api.Block{block(0, -1, "1 2")}}, api.ErrRange},
		"row below column":       {api.System{Sizes: []int{1, 1}, Blocks: []api.Block{block(0, 1, "1 2")}}, api.ErrRange},
		"no such row":            {api.System{Sizes: []int{1, 1}, Blocks: []api.Block{block(2, 0, "1 2")}}, api.ErrRange},
		"greatest row":           {api.System{Sizes: []int{1, 1}, Blocks: []api.Block{block(math.MaxInt, 0, "1")}}, api.ErrRange},
		"least column":           {api.System{Sizes: []int{1, 1}, Blocks: []api.Block{block(0, math.MinInt, "1")}}, api.ErrRange},
		"no rows":                {api.System{Sizes: []int{1}, Blocks: []api.Block{{}}}, api.ErrMismatch},
		"empty row":              {api.System{Sizes: []int{1}, Blocks: []api.Block{{At: api.Matrix{nil}}}}, api.ErrMismatch},
		"too many rows":          {api.System{Sizes: []int{2, 1}, Blocks: []api.Block{block(1, 0, "1 2;3 4")}}, api.ErrMismatch},
		"too many columns":       {api.System{Sizes: []int{2, 1}, Blocks: []api.Block{block(1, 0, "1 2 3")}}, api.ErrMismatch},
		"transposed":             {api.System{Sizes: []int{2, 1}, Blocks: []api.Block{block(1, 0, "1;2")}}, api.ErrMismatch},
		"uneven rows":            {api.System{Sizes: []int{2, 2}, Blocks: []api.Block{block(1, 0, "1 2;3")}}, api.ErrMismatch},
		"not symmetric":          {api.System{Sizes: []int{2}, Blocks: []api.Block{block(0, 0, "1 2;3 4")}}, api.ErrMismatch},
		"wrong size, then range": {api.System{Sizes: []int{2}, Blocks: []api.Block{block(0, 0, "1"), block(1, 1, "1")}}, api.ErrMismatch},
		"range, then wrong size": {api.System{Sizes: []int{2}, Blocks: []api.Block{block(1, 1, "1"), block(0, 0, "1")}}, api.ErrRange},
		"twice the same":         {api.System{Sizes: []int{1, 1}, Blocks: []api.Block{block(0, 0, "1"), block(0, 0, "1"), block(2, 2, "1")}}, api.ErrOrder},
		"order of rows":          {api.System{Sizes: []int{1, 1}, Blocks: []api.Block{block(1, 1, "1"), block(0, 0, "1")}}, api.ErrOrder},
		"order of columns":       {api.System{Sizes: []int{1, 1}, Blocks: []api.Block{block(1, 1, "1"), block(1, 0, "1")}}, api.ErrOrder},
		"wrong size, then order": {api.System{Sizes: []int{1, 1}, Blocks: []api.Block{block(1, 1, "1"), block(1, 0, "1 1")}}, api.ErrMismatch},
		"order, then wrong size": {api.System{Sizes: []int{1, 1, 1}, Blocks: []api.Block{block(1, 1, "1"), block(1, 0, "1"), block(2, 0, "")}}, api.ErrOrder},
		"right side too short":   {api.System{Sizes: []int{1, 1}, Blocks: one, Right: list("1")}, api.ErrMismatch},
		"right side too long":    {api.System{Sizes: []int{1, 1}, Blocks: one, Right: list("1 2 3")}, api.ErrMismatch},
		"no right side":          {api.System{Sizes: []int{1}, Blocks: one}, api.ErrMismatch},
	}
}

// functions are all functions but Check, with arguments that have errors of their own.
func functions() map[string]func(s api.System) (any, api.Code) {
	bad := notCanonical()
	return map[string]func(s api.System) (any, api.Code){
		"Dense":   func(s api.System) (any, api.Code) { a, code := blocks.Dense(s); return text(a), code },
		"Pattern": func(s api.System) (any, api.Code) { g, code := blocks.Pattern(s); return g, code },
		"Eliminate": func(s api.System) (any, api.Code) {
			c, code := blocks.Eliminate(s, []int{-1})
			return systemText(c), code
		},
		"Back":  func(s api.System) (any, api.Code) { x, code := blocks.Back(s, []int{0, 0}, bad); return len(x), code },
		"Solve": func(s api.System) (any, api.Code) { x, code := blocks.Solve(s, nil); return len(x), code },
		"Fill":  func(s api.System) (any, api.Code) { l, code := blocks.Fill(s, []int{-1}); return l, code },
		"Order": func(s api.System) (any, api.Code) { l, code := blocks.Order(s); return l, code },
	}
}

// expectInvalid fails the test if a function does not return the code, or something else together with it.
func expectInvalid(t *testing.T, what string, s api.System, code api.Code) {
	t.Helper()
	if got := blocks.Check(s); got != code {
		t.Errorf("%s: Check: %d, want %d", what, got, code)
	}
	for name, f := range functions() {
		result, got := f(s)
		if s := fmt.Sprint(result); got != code || s != "" && s != "0" && s != "[]" && s != "{0 []}" && s != "[] = " {
			t.Errorf("%s: %s: %s, %d, want %d", what, name, s, got, code)
		}
	}
}

// P6.1: what is not valid, in the order of the errors.
func TestCheck(t *testing.T) {
	for what, c := range invalid() {
		expectInvalid(t, what, c.s, c.code)
		for _, x := range notCanonical() {
			s := c.s
			s.Right = slices.Concat(s.Right, []api.Rat{x})
			expectInvalid(t, what+", and the right side is not canonical", s, api.ErrArgument)
			s = c.s
			s.Blocks = append(slices.Clone(s.Blocks), api.Block{Row: -1, At: api.Matrix{nil, list("1"), {list("2")[0], x}}})
			expectInvalid(t, what+", and a block is not canonical", s, api.ErrArgument)
		}
	}
	for _, x := range notCanonical() {
		s := example()
		s.Blocks[3].At[0][0] = x
		expectInvalid(t, "a block", s, api.ErrArgument)
		s = example()
		s.Right[2] = x
		expectInvalid(t, "the right side", s, api.ErrArgument)
	}
}

// P6.1: the limits themselves are allowed.
func TestCheckLimits(t *testing.T) {
	for _, sizes := range [][]int{{1}, {12}, slices.Repeat([]int{1}, 12), {12, 12, 12, 12, 12, 4}, {1, 2, 12, 5}} {
		s := api.System{Sizes: sizes}
		for range unitsOf(sizes, every(len(sizes))) {
			s.Right = append(s.Right, list("1/2")...)
		}
		if code := blocks.Check(s); code != api.OK {
			t.Errorf("Check of the sizes %d: %d", sizes, code)
		}
	}
}

// P6.2: errors of lists, in their order.
func TestLists(t *testing.T) {
	bad := notCanonical()[0]
	for _, c := range []struct {
		list      []int
		eliminate api.Code
		back      api.Code
	}{
		{[]int{3, 0, 0}, api.ErrRange, api.ErrRange},
		{[]int{-1}, api.ErrRange, api.ErrRange},
		{[]int{0, 0, 3}, api.ErrDuplicate, api.ErrDuplicate},
		{[]int{0, 3, 0}, api.ErrRange, api.ErrRange},
		{[]int{0, 1, 2, 0}, api.ErrDuplicate, api.ErrDuplicate},
		{[]int{0, 1, 2, 3}, api.ErrRange, api.ErrRange},
		{[]int{math.MaxInt}, api.ErrRange, api.ErrRange},
		{[]int{math.MinInt}, api.ErrRange, api.ErrRange},
		{slices.Repeat([]int{0}, 100), api.ErrDuplicate, api.ErrDuplicate},
		{[]int{2, 1, 0}, api.ErrState, api.ErrArgument},
		{[]int{1}, api.OK, api.ErrArgument},
	} {
		s, code := blocks.Eliminate(example(), c.list)
		if code != c.eliminate || code != api.OK && systemText(s) != "[] = " {
			t.Errorf("Eliminate %d: %s, %d, want %d", c.list, systemText(s), code, c.eliminate)
		}
		if x, code := blocks.Back(example(), c.list, []api.Rat{bad}); code != c.back || len(x) > 0 {
			t.Errorf("Back %d: %s, %d, want %d", c.list, listText(x), code, c.back)
		}
	}
	// All block rows of a system that is singular.
	singular := api.System{Sizes: []int{1}, Right: list("1")}
	if _, code := blocks.Eliminate(singular, []int{0}); code != api.ErrState {
		t.Errorf("Eliminate: %d", code)
	}
}

// P6.2: errors of the values that Back takes, in their order.
func TestBackErrors(t *testing.T) {
	singular := api.System{Sizes: []int{1, 2}, Right: list("1 2 3")}
	for _, x := range notCanonical() {
		for i, values := range [][]api.Rat{{x}, {x, list("1")[0]}, {list("1")[0], x}, {list("1")[0], list("1")[0], x}} {
			if got, code := blocks.Back(singular, []int{0}, values); code != api.ErrArgument || len(got) > 0 {
				t.Errorf("values %d: %s, %d", i, listText(got), code)
			}
		}
	}
	for _, values := range []string{"", "1", "1 2 3"} {
		if got, code := blocks.Back(singular, []int{0}, list(values)); code != api.ErrMismatch || len(got) > 0 {
			t.Errorf("values %s: %s, %d", values, listText(got), code)
		}
	}
	if got, code := blocks.Back(singular, []int{0}, list("1 2")); code != api.ErrSingular || len(got) > 0 {
		t.Errorf("%s, %d", listText(got), code)
	}
	if got, code := blocks.Back(singular, nil, list("1 2")); code != api.ErrMismatch || len(got) > 0 {
		t.Errorf("%s, %d", listText(got), code)
	}
	if got, code := blocks.Back(singular, []int{1, 0}, list("1")); code != api.ErrMismatch || len(got) > 0 {
		t.Errorf("%s, %d", listText(got), code)
	}
}

// P6.4, P6.6: orders that are none; the error comes before ErrSingular.
func TestErrOrder(t *testing.T) {
	singular := api.System{Sizes: []int{1, 1, 1}, Right: list("1 2 3")}
	for _, order := range [][]int{nil, {0, 1}, {0, 1, 1}, {0, 1, 3}, {0, 1, 2, 0}, {0, 1, 2, 3}, {-1, 0, 1}, {0, 0, 0}, {math.MaxInt, math.MinInt, 0}} {
		for _, s := range []api.System{example(), singular} {
			if x, code := blocks.Solve(s, order); code != api.ErrOrder || len(x) > 0 {
				t.Errorf("Solve in the order %d: %s, %d", order, listText(x), code)
			}
			if l, code := blocks.Fill(s, order); code != api.ErrOrder || len(l) > 0 {
				t.Errorf("Fill of the order %d: %d, %d", order, l, code)
			}
		}
	}
	if x, code := blocks.Solve(singular, []int{2, 1, 0}); code != api.ErrSingular || len(x) > 0 {
		t.Errorf("Solve: %s, %d", listText(x), code)
	}
}

// The arguments stay as they are, and results are new memory, which they do not share with one another.
func TestNothingIsShared(t *testing.T) {
	some(60, 4, func(r *rand.Rand, s api.System) {
		order := r.Perm(len(s.Sizes))
		rows := order[:r.Intn(len(order))]
		before := fmt.Sprint(s, order)
		for i, call := range calls(s, rows, order) {
			parts := call()
			for n := range parts {
				others := slices.Concat(parts[:n], parts[n+1:])
				saved := fmt.Sprint(others)
				spoil(parts[n])
				if fmt.Sprint(others) != saved {
					t.Fatalf("parts of result %d for %s share memory", i, before)
				}
			}
			if fmt.Sprint(s, order) != before {
				t.Fatalf("call %d changes %s", i, before)
			}
		}
	})
}

// calls are the functions with fractions in their results, which return these.
func calls(s api.System, rows, order []int) []func() []api.Rat {
	return []func() []api.Rat{
		func() []api.Rat { a, _ := blocks.Dense(s); return slices.Concat(a...) },
		func() []api.Rat { x, _ := blocks.Solve(s, order); return x },
		func() []api.Rat { x, _ := blocks.Back(s, order, nil); return x },
		func() []api.Rat { x, _ := blocks.Back(s, nil, s.Right); return x },
		func() []api.Rat {
			x, _ := blocks.Back(s, rows, s.Right[:len(s.Right)-len(unitsOf(s.Sizes, rows))])
			return x
		},
		func() []api.Rat {
			complement, _ := blocks.Eliminate(s, rows)
			all := complement.Right
			for _, b := range complement.Blocks {
				all = append(all, slices.Concat(b.At...)...)
			}
			for k := range complement.Sizes {
				complement.Sizes[k] = 99
			}
			return all
		},
	}
}

// spoil overwrites the memory of a number.
func spoil(x api.Rat) {
	for _, groups := range [][]uint32{x.Num.Groups, x.Den.Groups} {
		for i := range groups {
			groups[i] = 987654321
		}
		_ = append(groups, 987654321)
	}
}
