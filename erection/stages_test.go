package erection_test

import (
	"math"
	"slices"
	"testing"

	"putlog/api"
	"putlog/erection"
)

// P7.2: the chapter's examples, and other stages of its plan.
func TestReady(t *testing.T) {
	for _, x := range []struct {
		done  []int
		right []int
		e     api.Errno
	}{
		{[]int{0}, []int{1, 2}, api.OK},
		{nil, []int{0}, api.OK},
		{[]int{0, 1}, []int{2}, api.OK},
		{[]int{0, 2}, []int{1}, api.OK},
		{[]int{0, 1, 2}, []int{3}, api.OK},
		{[]int{0, 1, 2, 3}, nil, api.OK},
		{[]int{1}, nil, api.ErrState},
		{[]int{1, 2, 3}, nil, api.ErrState},
		{[]int{0, 1, 3}, nil, api.ErrState},
		{[]int{4}, nil, api.ErrMissing},
		{[]int{-1}, nil, api.ErrMissing},
		{[]int{math.MinInt, math.MaxInt}, nil, api.ErrMissing},
		{[]int{1, 0, 4}, nil, api.ErrMissing},
		{[]int{0, 0}, nil, api.ErrOrder},
		{[]int{0, 2, 1}, nil, api.ErrOrder},
		{[]int{3, 1}, nil, api.ErrOrder},
		{[]int{0, 1, 2, 3, 3}, nil, api.ErrOrder},
	} {
		got, e := erection.Ready(thePlan(), x.done)
		want(t, "Ready", got, e, x.right, x.e)
		isStage := x.e == api.OK
		if x.e == api.ErrState {
			x.e = api.OK
		}
		is, e := erection.Closed(thePlan(), x.done)
		want(t, "Closed", is, e, isStage, x.e)
	}
}

// P7.2: the order of the errors.
func TestReadyOrder(t *testing.T) {
	list := append([][]fault{planFault()}, doneFault()...)
	inOrder(t, "Closed", func(x input) api.Errno {
		is, e := erection.Closed(x.tasks, x.done)
		if e != api.OK {
			want(t, "Closed", is, e, false, e)
		}
		return e
	}, list...)
	list = append(list, one(api.ErrState, func(x *input) { x.done = x.done[1:] }))
	inOrder(t, "Ready", func(x input) api.Errno {
		l, e := erection.Ready(x.tasks, x.done)
		if e != api.OK {
			want(t, "Ready", l, e, []int{}, e)
		}
		return e
	}, list...)
}

// P7.2: all sets of tasks of plans.
func TestReadyByDefinition(t *testing.T) {
	d := dice()
	for range 200 {
		l := somePlan(d, 7)
		eachSet(l, func(set []int, isStage bool) {
			is, e := erection.Closed(l, set)
			want(t, "Closed", is, e, isStage, api.OK)
			right, f := []int{}, api.ErrState
			if isStage {
				f = api.OK
				for n := range l {
					if !slices.Contains(set, n) && has(set, l[n].Needs) {
						right = append(right, n)
					}
				}
			}
			got, e := erection.Ready(l, set)
			want(t, "Ready", got, e, right, f)
		})
	}
}

// P7.10: stages are just the beginnings of orders, as sets.
func TestStagesAreBeginnings(t *testing.T) {
	d := dice()
	for range 100 {
		l := somePlan(d, 5)
		beginnings := map[int]bool{}
		eachOrder(l, func(order []int) {
			set := 0
			beginnings[set] = true
			for _, n := range order {
				set |= 1 << n
				beginnings[set] = true
			}
		})
		eachSet(l, func(set []int, _ bool) {
			bits := 0
			for _, n := range set {
				bits |= 1 << n
			}
			is, e := erection.Closed(l, set)
			want(t, "Closed", is, e, beginnings[bits], api.OK)
		})
	}
}
