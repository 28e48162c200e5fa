package polygon

import (
	"slices"

	"fiducial/api"
	"fiducial/plane"
)

// Ears returns a triangulation by cutting ears.
func Ears(p []api.Pix) ([][3]int, api.Code) {
	if code := Check(p); code != api.OK {
		return nil, code
	}
	r := ringOf(p)
	var triangles [][3]int
	for range len(p) - 3 {
		ear := r.ear()
		triangles = append(triangles, r.corner(ear))
		r.remove(ear)
	}
	return append(triangles, r.corner(r.behind[r.first])), api.OK
}

// ring are the remaining vertices of a simple polygon: a linked list in arrays, with the first of them and the direction of the polygon.
type ring struct {
	points         []api.Pix
	direction      int
	first          int
	before, behind [api.MaxVertices]int
}

// ringOf returns the ring of all vertices.
func ringOf(p []api.Pix) *ring {
	r := &ring{points: p, direction: direction(p)}
	n := len(p)
	for i := range n {
		r.before[i], r.behind[i] = (i+n-1)%n, (i+1)%n
	}
	return r
}

// remove removes the vertex v.
func (r *ring) remove(v int) {
	u, w := r.before[v], r.behind[v]
	r.behind[u], r.before[w] = w, u
	if v == r.first {
		r.first = w
	}
}

// corner returns the vertex before v, v and the vertex behind it.
func (r *ring) corner(v int) [3]int {
	return [3]int{r.before[v], v, r.behind[v]}
}

// ear returns the ear with the least index. There always is one, because what an ear is cut from stays a simple polygon.
func (r *ring) ear() int {
	v := r.first
	for !r.isEar(v) {
		v = r.behind[v]
	}
	return v
}

// isEar reports whether the vertex v is an ear.
func (r *ring) isEar(v int) bool {
	u, w := r.before[v], r.behind[v]
	a, b, c := r.points[u], r.points[v], r.points[w]
	if plane.Turn(a, b, c) != r.direction {
		return false
	}
	for i := r.behind[w]; i != u; i = r.behind[i] {
		if plane.Position(a, b, c, r.points[i]) >= 0 {
			return false
		}
	}
	return true
}

// CheckEars returns OK if t is a triangulation of p.
func CheckEars(p []api.Pix, t [][3]int) api.Code {
	if code := Check(p); code != api.OK {
		return code
	}
	if len(t) != len(p)-2 || slices.ContainsFunc(t, func(l [3]int) bool { return !isTriangle(p, l) }) {
		return api.ErrProof
	}
	sides, ok := sidesOf(t)
	if !ok || !hasBorder(sides, len(p)) {
		return api.ErrProof
	}
	return api.OK
}

// isTriangle reports whether a triangle has vertices of p, which is a simple polygon, and its direction.
func isTriangle(p []api.Pix, l [3]int) bool {
	for _, i := range l {
		if i < 0 || i >= len(p) {
			return false
		}
	}
	return plane.Turn(p[l[0]], p[l[1]], p[l[2]]) == direction(p)
}

// sidesOf returns the directed edges of some triangles, and whether each of them occurs only once.
func sidesOf(t [][3]int) (map[[2]int]bool, bool) {
	sides := map[[2]int]bool{}
	for _, l := range t {
		for k, i := range l {
			side := [2]int{i, l[(k+1)%3]}
			if sides[side] {
				return nil, false
			}
			sides[side] = true
		}
	}
	return sides, true
}

// hasBorder reports whether all edges of a polygon with n vertices are among the directed edges of triangles, and the others in pairs of opposite directions.
func hasBorder(sides map[[2]int]bool, n int) bool {
	for i := range n {
		if !sides[[2]int{i, (i + 1) % n}] {
			return false
		}
	}
	for side := range sides {
		i, k := side[0], side[1]
		if k != (i+1)%n && !sides[[2]int{k, i}] {
			return false
		}
	}
	return true
}
