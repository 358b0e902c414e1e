package erection

import (
	"slices"

	"putlog/api"
)

// Accept returns -1 for an order, and otherwise the place of the first wrong element, or the length of the
// list if it only lacks tasks.
func Accept(l []api.Task, order []int) (int, api.Errno) {
	if e := Check(l); e != api.OK {
		return 0, e
	}
	return accept(l, order)
}

// Dismantles returns what Accept returns for the reverse plan.
func Dismantles(l []api.Task, order []int) (int, api.Errno) {
	p, e := planOf(l)
	if e != api.OK {
		return 0, e
	}
	return accept(p.reverse(), order)
}

// accept is Accept for tasks that are a plan.
func accept(l []api.Task, order []int) (int, api.Errno) {
	stands := make([]bool, len(l))
	isMissing := func(t int) bool { return !stands[t] }
	for place, t := range order {
		switch {
		case !isFrom(0, len(l)-1, t):
			return place, api.ErrMissing
		case stands[t]:
			return place, api.ErrExists
		case slices.ContainsFunc(l[t].Needs, isMissing):
			return place, api.ErrOrder
		}
		stands[t] = true
	}
	if len(order) < len(l) {
		return len(order), api.ErrShape
	}
	return -1, api.OK
}

// Order returns the first order lexicographically.
func Order(l []api.Task) ([]int, api.Errno) {
	p, e := planOf(l)
	if e != api.OK {
		return nil, e
	}
	return p.order, api.OK
}

// Handlings returns the handlings of an order.
func Handlings(l []api.Task, order []int) (int, api.Errno) {
	if _, e := Accept(l, order); e != api.OK {
		return 0, e
	}
	n := 0
	for i := 1; i < len(order); i++ {
		if l[order[i]].Place != l[order[i-1]].Place {
			n++
		}
	}
	return n, api.OK
}
