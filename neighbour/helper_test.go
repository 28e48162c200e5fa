package neighbour_test

import (
	"math"
	"math/rand"
	"slices"

	"fiducial/api"
)

// pick is an element of a list.
func pick[T any](r *rand.Rand, l ...T) T { return l[r.Intn(len(l))] }

// some calls check many times.
func some(rounds int, check func(r *rand.Rand)) {
	r := rand.New(rand.NewSource(22))
	for range rounds {
		check(r)
	}
}

// far are numbers that are beyond all limits.
func far() []int {
	return []int{math.MinInt, math.MinInt + 1, math.MaxInt, math.MaxInt - 1, 1 << 32, -1 << 32, 1 << 62, -1 << 62}
}

// distanceOf is the number of bits in which two words differ.
func distanceOf(a, b uint64) int {
	count := 0
	for ; a != b; count++ {
		// The least bit in which they differ is changed.
		d := a ^ b
		a ^= d & -d
	}
	return count
}

// randomWord is a word of a number of bits; with few bits many distances are equal.
func randomWord(r *rand.Rand, bits int) uint64 {
	w := r.Uint64()
	if r.Intn(3) == 0 {
		w &= r.Uint64() & r.Uint64()
	}
	return w >> (64 - bits)
}

// randomList is a list of words.
func randomList(r *rand.Rand, bits int) []uint64 {
	l := make([]uint64, pick(r, 0, 1, 2, 3, 1+r.Intn(10), 1+r.Intn(64), 63, 64))
	for i := range l {
		l[i] = randomWord(r, bits)
	}
	return l
}

// randomBits is a number of bits of words.
func randomBits(r *rand.Rand) int { return pick(r, 1, 2, 4, 8, 16, 64, 64) }

// nearestOf is the nearest word by its definition: no other one is nearer, and none before it as near.
func nearestOf(l []uint64, w uint64) int {
	for i := range l {
		isNearest := true
		for j := 0; j < len(l) && isNearest; j++ {
			d, e := distanceOf(l[i], w), distanceOf(l[j], w)
			isNearest = d < e || d == e && i <= j
		}
		if isNearest {
			return i
		}
	}
	return -1
}

// below are the nodes of the subtree of node k, with what is no tree cut off.
func below(t []api.Vantage, k, depth int) []int {
	if k == -1 || depth > len(t) {
		return nil
	}
	return slices.Concat([]int{k}, below(t, t[k].Near, depth+1), below(t, t[k].Far, depth+1))
}

// isRight reports whether t is a right tree for l, by the sentences of the definition.
func isRight(l []uint64, t []api.Vantage) bool {
	if len(t) != len(l) {
		return false
	}
	for i := range t {
		items, above := 0, 0
		for k, v := range t {
			if v.Item == i {
				items++
			}
			if v.Near == i || v.Far == i {
				above++
			}
			for _, n := range []int{v.Near, v.Far} {
				if n != -1 && (n <= k || n > len(t)-1) {
					return false
				}
			}
		}
		if items != 1 || above != min(i, 1) || t[i].Radius < 0 || t[i].Radius > 64 {
			return false
		}
	}
	for _, v := range t {
		for _, k := range below(t, v.Near, 0) {
			if distanceOf(l[v.Item], l[t[k].Item]) > v.Radius {
				return false
			}
		}
		for _, k := range below(t, v.Far, 0) {
			if distanceOf(l[v.Item], l[t[k].Item]) <= v.Radius {
				return false
			}
		}
	}
	return true
}

// randomTree is any right tree for a list: the nodes stand in any order in which Near and Far are later.
func randomTree(r *rand.Rand, l []uint64) []api.Vantage {
	type branch struct {
		items []int
		hang  func(k int)
	}
	var t []api.Vantage
	open := []branch{{r.Perm(len(l)), func(int) {}}}
	for len(open) > 0 {
		i := r.Intn(len(open))
		b := open[i]
		open = slices.Delete(open, i, i+1)
		if len(b.items) == 0 {
			continue
		}
		k, top := len(t), b.items[0]
		b.hang(k)
		v := api.Vantage{Item: top, Near: -1, Far: -1, Radius: pick(r, 0, 64, r.Intn(65), distanceOf(l[top], l[pick(r, b.items...)]), max(0, distanceOf(l[top], l[pick(r, b.items...)])-1))}
		var near, far []int
		for _, item := range b.items[1:] {
			if distanceOf(l[top], l[item]) <= v.Radius {
				near = append(near, item)
			} else {
				far = append(far, item)
			}
		}
		t = append(t, v)
		open = append(open, branch{near, func(n int) { t[k].Near = n }}, branch{far, func(n int) { t[k].Far = n }})
	}
	return t
}

// matchesOf are the matches by their definition.
func matchesOf(a, b []uint64, num, den int) []api.Match {
	isClear := func(l []uint64, index int, w uint64) bool {
		for k, v := range l {
			if k != index && distanceOf(l[index], w)*den > num*distanceOf(v, w) {
				return false
			}
		}
		return true
	}
	var l []api.Match
	for i, w := range a {
		j := nearestOf(b, w)
		if j >= 0 && nearestOf(a, b[j]) == i && isClear(b, j, w) && isClear(a, i, b[j]) {
			l = append(l, api.Match{First: i, Second: j, Distance: distanceOf(w, b[j])})
		}
	}
	return l
}

// related are two lists, many of whose words are near one another.
func related(r *rand.Rand) (a, b []uint64) {
	bits := randomBits(r)
	a, b = randomList(r, bits), randomList(r, bits)
	for i := range b {
		if len(a) > 0 && r.Intn(3) > 0 {
			b[i] = pick(r, a...)
			for range r.Intn(4) {
				b[i] ^= 1 << r.Intn(bits)
			}
		}
	}
	return a, b
}
