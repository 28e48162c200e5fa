package radiometry_test

import (
	"math/big"
	"math/rand"
	"slices"
	"testing"

	"fiducial/api"
	"fiducial/radiometry"
)

// upTo is the sum of the elements up to the index i.
func upTo(l []int, i int) int64 {
	sum := int64(0)
	for _, n := range l[:i+1] {
		sum += int64(n)
	}
	return sum
}

// tableOf is the table, by its definition: of fractions of the whole.
func tableOf(histogram, target []int) []int {
	part := func(l []int, i int) *big.Rat { return big.NewRat(upTo(l, i), upTo(l, len(l)-1)) }
	var table []int
	for v := range histogram {
		t := 0
		for part(target, t).Cmp(part(histogram, v)) < 0 {
			t++
		}
		table = append(table, t)
	}
	return table
}

// wantTable fails the test if Table does not return the table, or changes its arguments.
func wantTable(t *testing.T, histogram, target []int) []int {
	t.Helper()
	want := tableOf(histogram, target)
	before := [][]int{slices.Clone(histogram), slices.Clone(target)}
	got, code := radiometry.Table(histogram, target)
	if code != api.OK || !slices.Equal(got, want) || !slices.Equal(histogram, before[0]) || !slices.Equal(target, before[1]) {
		t.Fatalf("Table(%v, %v) = %v, %d, want %v", histogram, target, got, code, want)
	}
	if !slices.IsSorted(got) {
		t.Fatalf("Table(%v, %v) = %v is not monotone", histogram, target, got)
	}
	return got
}

// P18.6: all short lists of small numbers.
func TestTableSmall(t *testing.T) {
	var l [][]int
	for n := 1; n <= 4; n++ {
		for k := range 1 << (2 * n) {
			var counts []int
			for i := range n {
				counts = append(counts, k>>(2*i)&3)
			}
			if slices.Max(counts) > 0 {
				l = append(l, counts)
			}
		}
	}
	r := rand.New(rand.NewSource(1))
	for i, a := range l {
		for range 30 {
			wantTable(t, a, l[r.Intn(len(l))])
		}
		wantTable(t, l[r.Intn(len(l))], l[i])
	}
	if got := wantTable(t, []int{2, 0, 2}, []int{1, 1, 2}); !slices.Equal(got, []int{1, 1, 2}) {
		t.Errorf("Table of the example: %v", got)
	}
	// What is before all grey values becomes 0, even if 0 does not occur in the target.
	if got := wantTable(t, []int{0, 0, 1}, []int{0, 5, 0, 5}); !slices.Equal(got, []int{0, 0, 3}) {
		t.Errorf("Table = %v", got)
	}
}

// P18.6: longer lists; equal parts of the whole, too.
func TestTable(t *testing.T) {
	counts := func(r *rand.Rand) []int {
		l := make([]int, 1+r.Intn(pick(r, 3, 20, 60)))
		greatest := pick(r, 1, 3, 100, 1<<18)
		for i := range l {
			l[i] = pick(r, 0, greatest, r.Intn(greatest+1))
		}
		l[r.Intn(len(l))] = greatest
		return l
	}
	some(1500, func(r *rand.Rand) {
		a, b := counts(r), counts(r)
		wantTable(t, a, b)
		for v, g := range wantTable(t, a, a) {
			if a[v] > 0 && g != v {
				t.Fatalf("Table of %v to itself maps %d to %d", a, v, g)
			}
		}
	})
	// As many and as great numbers as there may be: each grey value takes its own part.
	many := slices.Repeat([]int{1 << 18}, 4096)
	got, code := radiometry.Table(many, many)
	if code != api.OK || len(got) != 4096 {
		t.Fatalf("Table: %d", code)
	}
	for v, g := range got {
		if v != g {
			t.Fatalf("Table maps %d to %d", v, g)
		}
	}
	if got, code := radiometry.Table(many, []int{7}); code != api.OK || len(got) != 4096 || slices.Max(got) != 0 {
		t.Errorf("Table: %d", code)
	}
	if got, code := radiometry.Table([]int{7}, many); code != api.OK || !slices.Equal(got, []int{4095}) {
		t.Errorf("Table = %v, %d", got, code)
	}
}

// P18.6: the errors, in their order.
func TestTableInvalid(t *testing.T) {
	many := slices.Repeat([]int{1}, 4097)
	for _, c := range []struct {
		a, b []int
		code api.Code
	}{
		{nil, nil, api.ErrLimit},
		{nil, []int{1}, api.ErrLimit},
		{[]int{1}, []int{}, api.ErrLimit},
		{[]int{-1}, nil, api.ErrLimit},
		{many, []int{1}, api.ErrLimit},
		{[]int{0}, many, api.ErrLimit},
		{[]int{0}, []int{-1}, api.ErrRange},
		{[]int{1<<18 + 1}, []int{0}, api.ErrRange},
		{[]int{1}, []int{1, 1<<18 + 1}, api.ErrRange},
		{[]int{1, -1}, []int{1}, api.ErrRange},
		{[]int{0, 0}, []int{1}, api.ErrDegenerate},
		{[]int{1}, []int{0}, api.ErrDegenerate},
		{[]int{0}, []int{0}, api.ErrDegenerate},
		{many[:4096], []int{0, 0, 0}, api.ErrDegenerate},
	} {
		if got, code := radiometry.Table(c.a, c.b); code != c.code || len(got) != 0 {
			t.Errorf("Table of %d and %d numbers: %v, %d, want %d", len(c.a), len(c.b), got, code, c.code)
		}
	}
	for _, n := range far() {
		for i := range 3 {
			for k := range 2 {
				l := [2][]int{{0, 1, 2}, {3, 4, 5}}
				l[k][i] = n
				if got, code := radiometry.Table(l[0], l[1]); code != api.ErrRange || len(got) != 0 {
					t.Errorf("Table(%v) = %v, %d", l, got, code)
				}
			}
		}
	}
}
