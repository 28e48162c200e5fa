package jet

import (
	"fiducial/api"
	"fiducial/fraction"
	"fiducial/interval"
)

// sweep goes through the nodes of a term, and calculates their jets.
type sweep struct {
	box           []api.Range
	order, places int
	table         [api.TermSquare + 1]operator
	jets          []*jet
}

// jet is the jet of a node. A derivative that is 0 may be the zero value of api.Range, and rows of second derivatives that all are 0 are left out: most of them are.
type jet struct {
	value   api.Range
	depends uint64 // a bit for each parameter by which there may be a derivative
	grad    []api.Range
	hess    [][]api.Range
}

// second returns the second derivative by the parameters i and k.
func (j *jet) second(i, k int) api.Range {
	row := j.hess[max(i, k)]
	if row == nil {
		return api.Range{}
	}
	return row[min(i, k)]
}

// store stores the second derivative by the parameters i and k, which is at most i.
func (j *jet) store(i, k int, a api.Range) {
	if isZero(a) {
		return
	}
	if j.hess[i] == nil {
		j.hess[i] = make([]api.Range, i+1)
	}
	j.hess[i][k] = a
}

// parameters returns the parameters by which there may be a derivative, in ascending order.
func (j *jet) parameters() []int {
	var list []int
	for i := range j.grad {
		if j.depends>>i&1 == 1 {
			list = append(list, i)
		}
	}
	return list
}

// step calculates the jet of the next node.
func (s *sweep) step(node api.TermNode) api.Code {
	w := &jet{}
	if s.order >= 1 {
		w.grad = make([]api.Range, len(s.box))
	}
	if s.order == 2 {
		w.hess = make([][]api.Range, len(s.box))
	}
	s.jets = append(s.jets, w)
	switch node.Op {
	case api.TermConst:
		w.value = s.rounded(point(node.N))
	case api.TermVar:
		w.value = s.rounded(s.box[node.A])
		if s.order >= 1 {
			w.depends = 1 << node.A
			w.grad[node.A] = point(fraction.Whole(1))
		}
	default:
		kids := kidsOf(node)
		return s.combine(node.Op, family{w, s.jets[kids[0]], s.jets[kids[1]]})
	}
	return api.OK
}

// combine calculates the jet of a node from those of its kids.
func (s *sweep) combine(op api.TermOp, n family) api.Code {
	image, code := s.table[op].image(n.u.value, n.v.value)
	if code != api.OK {
		return code
	}
	n.w.value = s.rounded(image)
	n.w.depends = n.u.depends | n.v.depends
	r := n.rule(op)
	list := n.w.parameters()
	for _, i := range list {
		n.w.grad[i] = s.rounded(r.first(i))
	}
	if s.order < 2 {
		return api.OK
	}
	for l, i := range list {
		for _, k := range list[:l+1] {
			n.w.store(i, k, s.rounded(r.second(i, k)))
		}
	}
	return api.OK
}

// rounded rounds an interval outwards, if the jets are rounded.
func (s *sweep) rounded(a api.Range) api.Range {
	if s.places < 0 || isZero(a) {
		return a
	}
	a, _ = interval.Round(a, s.places)
	return a
}

// result returns the jet of the last node in new memory.
func (s *sweep) result() api.Jet {
	last := s.jets[len(s.jets)-1]
	j := api.Jet{Value: copied(last.value)}
	for i := range last.grad {
		j.Grad = append(j.Grad, copied(last.grad[i]))
	}
	for i := range last.hess {
		row := make([]api.Range, i+1)
		for k := range row {
			row[k] = copied(last.second(i, k))
		}
		j.Hess = append(j.Hess, row)
	}
	return j
}
