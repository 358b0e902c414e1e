package erection_test

import (
	"math"
	"math/rand"
	"slices"
	"testing"

	"putlog/api"
	"putlog/erection"
)

// P7.3: the chapter's examples, and other lists.
func TestAccept(t *testing.T) {
	for _, x := range []struct {
		order []int
		place int
		e     api.Errno
	}{
		{[]int{0, 1, 2, 3}, -1, api.OK},
		{[]int{0, 2, 1, 3}, -1, api.OK},
		{[]int{0, 3, 1, 2}, 1, api.ErrOrder},
		{[]int{0, 1, 2}, 3, api.ErrShape},
		{nil, 0, api.ErrShape},
		{[]int{0}, 1, api.ErrShape},
		{[]int{1}, 0, api.ErrOrder},
		{[]int{0, 1, 3, 2}, 2, api.ErrOrder},
		{[]int{0, 0}, 1, api.ErrExists},
		{[]int{0, 1, 2, 3, 0}, 4, api.ErrExists},
		{[]int{0, 1, 2, 3, 4}, 4, api.ErrMissing},
		{[]int{0, 1, 2, 2}, 3, api.ErrExists},
		{[]int{0, -1, -1}, 1, api.ErrMissing},
		{[]int{4, 4}, 0, api.ErrMissing},
		{[]int{0, math.MaxInt, math.MinInt}, 1, api.ErrMissing},
		{[]int{0, 1, math.MinInt}, 2, api.ErrMissing},
	} {
		place, e := erection.Accept(thePlan(), x.order)
		want(t, "Accept", place, e, x.place, x.e)
		if x.e == api.OK {
			continue
		}
		n, e := erection.Handlings(thePlan(), x.order)
		want(t, "Handlings", n, e, 0, x.e)
	}
	place, e := erection.Accept(nil, nil)
	want(t, "Accept of no tasks", place, e, -1, api.OK)
	place, e = erection.Accept(nil, []int{0})
	want(t, "Accept of a task too many", place, e, 0, api.ErrMissing)
}

// P7.4: the chapter's example, and other lists.
func TestDismantles(t *testing.T) {
	for _, x := range []struct {
		order []int
		place int
		e     api.Errno
	}{
		{[]int{3, 1, 2, 0}, -1, api.OK},
		{[]int{3, 2, 1, 0}, -1, api.OK},
		{[]int{0, 1, 2, 3}, 0, api.ErrOrder},
		{[]int{3, 1, 0, 2}, 2, api.ErrOrder},
		{[]int{3, 1, 2}, 3, api.ErrShape},
		{[]int{3, 3}, 1, api.ErrExists},
		{[]int{3, 4}, 1, api.ErrMissing},
	} {
		place, e := erection.Dismantles(thePlan(), x.order)
		want(t, "Dismantles", place, e, x.place, x.e)
	}
}

// acceptOf is what Accept returns, from the definition.
func acceptOf(l []api.Task, order []int) (int, api.Errno) {
	for i, t := range order {
		before := order[:i]
		switch {
		case t < 0 || t >= len(l):
			return i, api.ErrMissing
		case slices.Contains(before, t):
			return i, api.ErrExists
		case !has(before, l[t].Needs):
			return i, api.ErrOrder
		}
	}
	for t := range l {
		if !slices.Contains(order, t) {
			return len(order), api.ErrShape
		}
	}
	return -1, api.OK
}

// nearly is a list of tasks that is an order, but for a few changes.
func nearly(d *rand.Rand, l []api.Task) []int {
	order, _ := erection.Order(l)
	for range d.Intn(3) {
		i := d.Intn(len(order) + 1)
		switch d.Intn(3) {
		case 0:
			order = slices.Insert(order, i, d.Intn(len(l)+2)-1)
		case 1:
			order = slices.Delete(order, i, min(i+1, len(order)))
		case 2:
			slices.Reverse(order[i:min(i+2, len(order))])
		}
	}
	return order
}

// P7.3, P7.4: lists of tasks, by the definitions.
func TestAcceptByDefinition(t *testing.T) {
	d := dice()
	errors := map[api.Errno]int{}
	for range 5000 {
		l := somePlan(d, 7)
		order := nearly(d, l)
		right, f := acceptOf(l, order)
		place, e := erection.Accept(l, order)
		want(t, "Accept", place, e, right, f)
		errors[f]++
		handlings := 0
		if f == api.OK {
			handlings = handlingsOf(l, order)
		}
		n, e := erection.Handlings(l, order)
		want(t, "Handlings", n, e, handlings, f)
		slices.Reverse(order)
		reverse, e := erection.Reverse(l)
		wantError(t, "Reverse", e, api.OK)
		right, f = acceptOf(reverse, order)
		place, e = erection.Dismantles(l, order)
		want(t, "Dismantles", place, e, right, f)
	}
	for _, e := range []api.Errno{api.OK, api.ErrMissing, api.ErrExists, api.ErrOrder, api.ErrShape} {
		if errors[e] < 100 {
			t.Errorf("only %d lists have the error %d", errors[e], e)
		}
	}
}

// P7.3, P7.4: the errors of plans; beside them there is no place.
func TestOrderErrors(t *testing.T) {
	inOrder(t, "Accept", func(x input) api.Errno {
		place, e := erection.Accept(x.tasks, x.order)
		if e != api.OK && !(place == 2 && e == api.ErrMissing) {
			want(t, "Accept", place, e, 0, e)
		}
		return e
	}, planFault(), one(api.ErrMissing, func(x *input) { x.order[2] = 4 }))
	inOrder(t, "Dismantles", func(x input) api.Errno {
		slices.Reverse(x.order)
		place, e := erection.Dismantles(x.tasks, x.order)
		if e != api.OK && !(place == 1 && e == api.ErrMissing) {
			want(t, "Dismantles", place, e, 0, e)
		}
		return e
	}, planFault(), one(api.ErrMissing, func(x *input) { x.order[2] = 4 }))
	inOrder(t, "Handlings", func(x input) api.Errno {
		n, e := erection.Handlings(x.tasks, x.order)
		if e != api.OK {
			want(t, "Handlings", n, e, 0, e)
		}
		return e
	}, planFault(), one(api.ErrMissing, func(x *input) { x.order[2] = 4 }))
	inOrder(t, "Order", func(x input) api.Errno {
		order, e := erection.Order(x.tasks)
		if e != api.OK {
			want(t, "Order", order, e, []int{}, e)
		}
		return e
	}, planFault())
}

// P7.3: first orders, and handlings.
func TestOrder(t *testing.T) {
	for _, x := range []struct {
		l         []api.Task
		right     []int
		handlings int
	}{
		{thePlan(), []int{0, 1, 2, 3}, 2},
		{nil, nil, 0},
		{[]api.Task{task("a", 5, 0)}, []int{0}, 0},
		{[]api.Task{task("a", 5, 0, 2), task("b", 5, 0), task("c", 5, 0)}, []int{1, 2, 0}, 0},
		{[]api.Task{task("a", 1, 0, 3), task("b", 2, 0), task("c", 1, 0), task("d", 2, 0)}, []int{1, 2, 3, 0}, 3},
		{[]api.Task{task("a", 1, 0, 2), task("b", 1, 0, 0), task("c", 0, 0), task("d", 0, 0)}, []int{2, 0, 1, 3}, 2},
	} {
		order, e := erection.Order(x.l)
		want(t, "Order", order, e, x.right, api.OK)
		n, e := erection.Handlings(x.l, x.right)
		want(t, "Handlings", n, e, x.handlings, api.OK)
	}
	n, e := erection.Handlings(thePlan(), []int{0, 2, 1, 3})
	want(t, "Handlings of the other order", n, e, 2, api.OK)
}

// P7.3, P7.10: the first order is the first of all, and accepted.
func TestOrderByDefinition(t *testing.T) {
	d := dice()
	for range 1000 {
		l := somePlan(d, 6)
		var first []int
		eachOrder(l, func(order []int) {
			if first == nil {
				first = order
			}
		})
		order, e := erection.Order(l)
		want(t, "Order", order, e, first, api.OK)
	}
}

// P7.10: an order, turned round, is an order of the reverse plan, and the reverse of the reverse is the plan.
func TestReverseOfOrders(t *testing.T) {
	d := dice()
	for range 200 {
		l := somePlan(d, 6)
		reverse, e := erection.Reverse(l)
		wantError(t, "Reverse", e, api.OK)
		eachOrder(l, func(order []int) {
			round := slices.Clone(order)
			slices.Reverse(round)
			place, e := erection.Accept(reverse, round)
			want(t, "Accept of an order turned round", place, e, -1, api.OK)
			place, e = erection.Dismantles(l, round)
			want(t, "Dismantles of an order turned round", place, e, -1, api.OK)
		})
		again, e := erection.Reverse(reverse)
		want(t, "Reverse of the reverse", again, e, l, api.OK)
	}
}

// P7.3: the largest plans. In the second one the tasks become ready from the last one on.
func TestOrderOfLargePlans(t *testing.T) {
	l := independent(4000)
	order, e := erection.Order(l)
	want(t, "Order", len(order), e, 4000, api.OK)
	for i := range l[:3999] {
		l[i].Needs = []int{i + 1}
	}
	slices.Reverse(order)
	got, e := erection.Order(l)
	want(t, "Order of a chain", got, e, order, api.OK)
}
