package erection_test

import (
	"testing"

	"putlog/api"
	"putlog/erection"
)

// placed is tasks at places, without needs.
func placed(places ...int) []api.Task {
	l := independent(len(places))
	for i, p := range places {
		l[i].Place = p
	}
	return l
}

// P7.3: the chapter's example, and plans in which the first order is not the best one.
func TestFewest(t *testing.T) {
	late := placed(0, 1, 0, 1)
	late[1].Needs = []int{3}
	for _, x := range []struct {
		l         []api.Task
		right     []int
		handlings int
		orders    int
	}{
		{thePlan(), []int{0, 1, 2, 3}, 2, 2},
		{nil, nil, 0, 1},
		{placed(999), []int{0}, 0, 1},
		{placed(0, 1), []int{0, 1}, 1, 2},
		{placed(0, 1, 0), []int{0, 2, 1}, 1, 6},
		{placed(1, 0, 1, 0), []int{0, 2, 1, 3}, 1, 24},
		{late, []int{0, 2, 3, 1}, 1, 12},
		{placed(0, 1, 0, 1, 0, 1, 0, 1, 0, 1, 0, 1, 0, 1), []int{0, 2, 4, 6, 8, 10, 12, 1, 3, 5, 7, 9, 11, 13}, 1, 87178291200},
		{placed(0, 1, 2, 3, 4, 5, 6, 7, 8, 9, 10, 11, 12, 13), []int{0, 1, 2, 3, 4, 5, 6, 7, 8, 9, 10, 11, 12, 13}, 13, 87178291200},
		{chained(14), []int{0, 1, 2, 3, 4, 5, 6, 7, 8, 9, 10, 11, 12, 13}, 0, 1},
	} {
		order, n, e := erection.Fewest(x.l)
		want(t, "Fewest", []any{order, n}, e, []any{x.right, x.handlings}, api.OK)
		n, e = erection.Orders(x.l)
		want(t, "Orders", n, e, x.orders, api.OK)
	}
}

// P7.3: the errors of Fewest and Orders.
func TestFewestErrors(t *testing.T) {
	list := append(planFault(), fault{api.ErrLarge, func(x *input) { x.tasks = independent(15) }})
	inOrder(t, "Fewest", func(x input) api.Errno {
		order, n, e := erection.Fewest(x.tasks)
		if e != api.OK {
			want(t, "Fewest", []any{order, n}, e, []any{[]int{}, 0}, e)
		}
		return e
	}, list)
	inOrder(t, "Orders", func(x input) api.Errno {
		n, e := erection.Orders(x.tasks)
		if e != api.OK {
			want(t, "Orders", n, e, 0, e)
		}
		return e
	}, list)
	wrong := independent(15)
	wrong[14].Needs = []int{14}
	_, _, e := erection.Fewest(wrong)
	wantError(t, "Fewest of 15 tasks with a circle", e, api.ErrCycle)
	_, e = erection.Orders(wrong)
	wantError(t, "Orders of 15 tasks with a circle", e, api.ErrCycle)
}

// P7.3, P7.10: all orders are gone through. None has fewer handlings than there are different places, less 1.
func TestFewestByDefinition(t *testing.T) {
	d := dice()
	better := 0
	for range 1500 {
		l := somePlan(d, 6)
		orders, least := 0, len(l)
		var best, first []int
		eachOrder(l, func(order []int) {
			orders++
			if first == nil {
				first = order
			}
			if n := handlingsOf(l, order); best == nil || n < least {
				best, least = order, n
			}
		})
		if !same(first, best) {
			better++
		}
		if len(l) == 0 {
			least = 0
		}
		order, n, e := erection.Fewest(l)
		want(t, "Fewest", []any{order, n}, e, []any{best, least}, api.OK)
		place, e := erection.Accept(l, order)
		want(t, "Accept of Fewest", place, e, -1, api.OK)
		places := map[int]bool{}
		for _, x := range l {
			places[x.Place] = true
		}
		if n < len(places)-1 {
			t.Errorf("%d handlings at %d places", n, len(places))
		}
		n, e = erection.Orders(l)
		want(t, "Orders", n, e, orders, api.OK)
	}
	if better < 300 {
		t.Errorf("only %d of 1500 first orders are not the best", better)
	}
}
