package jet

import "fiducial/api"

// Compose returns t with the parameter i replaced by the term subs[i], for every i.
func Compose(t api.Term, subs []api.Term, vars int) (api.Term, api.Code) {
	if code := Check(t, len(subs)); code != api.OK {
		return nil, code
	}
	for _, sub := range subs {
		if code := Check(sub, vars); code != api.OK {
			return nil, code
		}
	}
	var list api.Term
	ends := make([]int, len(subs))
	for k, sub := range subs {
		list = joined(list, sub, nil)
		ends[k] = len(list) - 1
	}
	list = joined(list, t, ends)
	// All parameters are right; their number is not asked for, because no term may have been there to ask.
	if Check(list, MaxVars) != api.OK {
		return nil, api.ErrLimit
	}
	if last := t[len(t)-1]; last.Op == api.TermVar {
		// The list does not end with the value.
		return joined(nil, subs[last.A], nil), api.OK
	}
	return list, api.OK
}

// joined returns a list of nodes with those of t behind them. With ends, the parameters of t are left out: each stands for the node at its end.
func joined(list, t api.Term, ends []int) api.Term {
	places := make([]int, len(t))
	for k, node := range t {
		if ends != nil && node.Op == api.TermVar {
			places[k] = ends[node.A]
			continue
		}
		places[k] = len(list)
		list = append(list, moved(node, places))
	}
	return list
}
