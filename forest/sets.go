package forest

// sets are disjoint sets of nodes: each node points to a node of its set that is not greater, and only the least one, the root of the set, to itself.
type sets []int

// single returns n sets of one node each.
func single(n int) sets {
	s := make(sets, n)
	for k := range s {
		s[k] = k
	}
	return s
}

// root returns the root of the set of the node k. On its way it halves the path, so that the next one is shorter.
func (s sets) root(k int) int {
	for s[k] != k {
		s[k] = s[s[k]]
		k = s[k]
	}
	return k
}

// join unites the sets of two nodes, and reports whether they were two sets.
func (s sets) join(a, b int) bool {
	a, b = s.root(a), s.root(b)
	s[max(a, b)] = min(a, b)
	return a != b
}
