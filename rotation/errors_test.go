package rotation_test

import (
	"fmt"
	"math"
	"math/rand"
	"slices"
	"testing"

	"fiducial/api"
	"fiducial/fraction"
	"fiducial/rotation"
)

// one are the functions with one quaternion as argument; they return whether all other results are zero. The vector of Apply has an error of its own.
func one() map[string]func(q api.Quat) (bool, api.Code) {
	bad := notCanonical()
	return map[string]func(q api.Quat) (bool, api.Code){
		"Check":  func(q api.Quat) (bool, api.Code) { return true, rotation.Check(q) },
		"Canon":  func(q api.Quat) (bool, api.Code) { x, code := rotation.Canon(q); return x == api.Quat{}, code },
		"Conj":   func(q api.Quat) (bool, api.Code) { x, code := rotation.Conj(q); return x == api.Quat{}, code },
		"Matrix": func(q api.Quat) (bool, api.Code) { m, code := rotation.Matrix(q); return len(m) == 0, code },
		"Apply": func(q api.Quat) (bool, api.Code) {
			x, code := rotation.Apply(q, [3]api.Rat(bad[:3]))
			return !slices.ContainsFunc(x[:], func(y api.Rat) bool { return !isBlank(y) }), code
		},
	}
}

// two are the functions with two quaternions as arguments.
func two() map[string]func(p, q api.Quat) (bool, api.Code) {
	return map[string]func(p, q api.Quat) (bool, api.Code){
		"Mul":   func(p, q api.Quat) (bool, api.Code) { x, code := rotation.Mul(p, q); return x == api.Quat{}, code },
		"Chord": func(p, q api.Quat) (bool, api.Code) { x, code := rotation.Chord(p, q); return isBlank(x), code },
	}
}

// P8.1 to P8.3, P8.6: quaternions that are not valid, argument by argument.
func TestInvalid(t *testing.T) {
	good := quat(1, 2, 3, 4)
	expect := func(what string, q any, zero bool, code, want api.Code) {
		if code != want || !zero {
			t.Errorf("%s of %v: %d, want %d; zero %t", what, q, code, want, zero)
		}
	}
	for q, want := range invalid() {
		for name, f := range one() {
			zero, code := f(q)
			expect(name, q, zero, code, want)
		}
		for name, f := range two() {
			zero, code := f(q, good)
			expect(name, []api.Quat{q, good}, zero, code, want)
			zero, code = f(good, q)
			expect(name, []api.Quat{good, q}, zero, code, want)
			for other := range invalid() {
				zero, code = f(q, other)
				expect(name, []api.Quat{q, other}, zero, code, want)
			}
		}
	}
	for _, x := range []int{limit, -limit} {
		for _, q := range []api.Quat{quat(x, 0, 0, 0), quat(0, x, 0, 0), quat(0, 0, x, 0), quat(0, 0, 0, x), quat(x, x, -x, x)} {
			if code := rotation.Check(q); code != api.OK {
				t.Errorf("Check(%v): %d", q, code)
			}
		}
	}
}

// P8.3 to P8.5: fractions that are not canonical.
func TestNotCanonical(t *testing.T) {
	for _, bad := range notCanonical() {
		for k := range 3 {
			v := [3]api.Rat(list("1 2 3"))
			v[k] = bad
			x, code := rotation.Apply(quat(1, 2, 3, 4), v)
			if code != api.ErrArgument || slices.ContainsFunc(x[:], func(y api.Rat) bool { return !isBlank(y) }) {
				t.Errorf("Apply: %v, %d", x, code)
			}
			// The others make a quaternion that is too large.
			u := [3]api.Rat(list("1/1000 1/10000000 99999999"))
			u[k] = bad
			if q, code := rotation.Cayley(u[0], u[1], u[2]); code != api.ErrArgument || q != (api.Quat{}) {
				t.Errorf("Cayley: %v, %d", q, code)
			}
		}
		for k := range 4 {
			for _, rest := range []string{"0 0 0 0", "1 2 3 4"} {
				x := [4]api.Rat(list(rest))
				x[k] = bad
				for _, size := range []int{1, 0, math.MaxInt} {
					if q, code := rotation.Round(x, size); code != api.ErrArgument || q != (api.Quat{}) {
						t.Errorf("Round: %v, %d", q, code)
					}
				}
			}
		}
		for k := range 9 {
			for _, s := range []string{"1 0 0;0 1 0;0 0 1", "1 2 3;4 5 6;7 8 9"} {
				m := rows(s)
				m[k/3][k%3] = bad
				if q, code := rotation.OfMatrix(m); code != api.ErrArgument || q != (api.Quat{}) {
					t.Errorf("OfMatrix: %v, %d", q, code)
				}
			}
		}
	}
}

// P8.4: what has not three rows and columns.
func TestOfMatrixSize(t *testing.T) {
	for i, m := range []api.Matrix{nil, {}, {nil, nil, nil}, rows("1"), rows("1 0;0 1"), rows("1 0 0;0 1 0"), rows("1 0;0 1;0 0"), rows("1 0 0 0;0 1 0 0;0 0 1 0"), rows("1 0 0;0 1 0;0 0 1;0 0 0"), rows("1 0 0;0 1 0;0 0"), rows("1 0 0;0 1 0;0 0 1 0"), rows("1 0;0 1 0;0 0 1"), rows("1 0 0;0 1 0;")} {
		if q, code := rotation.OfMatrix(m); code != api.ErrArgument || q != (api.Quat{}) {
			t.Errorf("OfMatrix of matrix %d: %v, %d", i, q, code)
		}
	}
}

// P8.5: sizes, and four zeros.
func TestRoundErrors(t *testing.T) {
	zeros, one := [4]api.Rat(list("0 0 0 0")), [4]api.Rat(list("0 0 1/7 0"))
	for _, size := range []int{0, -1, limit + 1, math.MaxInt, math.MinInt} {
		if q, code := rotation.Round(one, size); code != api.ErrRange || q != (api.Quat{}) {
			t.Errorf("Round to the size %d: %v, %d", size, q, code)
		}
		if q, code := rotation.Round(zeros, size); code != api.ErrArgument || q != (api.Quat{}) {
			t.Errorf("Round of zeros to the size %d: %v, %d", size, q, code)
		}
	}
	for _, size := range []int{1, limit} {
		if q, code := rotation.Round(one, size); code != api.OK || q != quat(0, 0, 1, 0) {
			t.Errorf("Round to the size %d: %v, %d", size, q, code)
		}
		if q, code := rotation.Round(zeros, size); code != api.ErrArgument || q != (api.Quat{}) {
			t.Errorf("Round of zeros to the size %d: %v, %d", size, q, code)
		}
	}
}

// The arguments stay as they are, and results are new memory.
func TestNothingIsShared(t *testing.T) {
	some(300, func(r *rand.Rand) {
		q := random(r)
		v := [3]api.Rat{number(r), number(r), number(r)}
		m := matrixOf(t, q)
		four := [4]api.Rat{fraction.Whole(1), v[0], v[1], v[2]}
		before := fmt.Sprint(q, v, m, four)
		for i, call := range []func() []api.Rat{
			func() []api.Rat { m, _ := rotation.Matrix(q); return slices.Concat(m...) },
			func() []api.Rat { x, _ := rotation.Apply(q, v); return x[:] },
			func() []api.Rat { x, _ := rotation.Chord(q, q); return []api.Rat{x} },
			func() []api.Rat { rotation.OfMatrix(m); return nil },
			func() []api.Rat { rotation.Cayley(v[0], v[1], v[2]); return nil },
			func() []api.Rat { rotation.Round(four, 1000); return nil },
		} {
			parts := call()
			for n := range parts {
				others := slices.Concat(parts[:n], parts[n+1:])
				saved := fmt.Sprint(others)
				spoil(parts[n])
				if fmt.Sprint(others) != saved {
					t.Fatalf("parts of result %d for %s share memory", i, before)
				}
			}
			if fmt.Sprint(q, v, m, four) != before {
				t.Fatalf("call %d changes %s", i, before)
			}
		}
	})
}

// spoil overwrites the memory of a number.
func spoil(x api.Rat) {
	for _, groups := range [][]uint32{x.Num.Groups, x.Den.Groups} {
		for i := range groups {
			groups[i] = 987654321
		}
		_ = append(groups, 987654321)
	}
}
