package erection_test

import (
	"math"
	"slices"
	"testing"

	"putlog/api"
	"putlog/erection"
)

// chained is so many tasks; each one needs all earlier ones.
func chained(n int) []api.Task {
	l := independent(n)
	for i := range l {
		for j := range i {
			l[i].Needs = append(l[i].Needs, j)
		}
	}
	return l
}

// P7.1: plans, also with all numbers at their limits.
func TestCheck(t *testing.T) {
	highest := api.Task{Name: "abcdefghijkl", Trade: "Z-9", Member: 3999, Place: 999, Minutes: 10000}
	lowest := api.Task{Name: "a", Trade: "b", Member: -1}
	for _, l := range [][]api.Task{nil, thePlan(), {highest, lowest}, chained(300), independent(4000)} {
		wantError(t, "Check", erection.Check(l), api.OK)
	}
	backwards := []api.Task{task("a", 0, 0, 1, 2), task("b", 0, 0, 2), task("c", 0, 0)}
	wantError(t, "Check of tasks that need later ones", erection.Check(backwards), api.OK)
}

// P7.1: the errors of a task.
func TestCheckTask(t *testing.T) {
	for _, x := range []struct {
		is     api.Errno
		change func(t *api.Task)
	}{
		{api.ErrName, func(t *api.Task) { t.Name = "" }},
		{api.ErrName, func(t *api.Task) { t.Name = "abcdefghijklm" }},
		{api.ErrName, func(t *api.Task) { t.Name = "1a" }},
		{api.ErrName, func(t *api.Task) { t.Name = "a b" }},
		{api.ErrName, func(t *api.Task) { t.Trade = "" }},
		{api.ErrName, func(t *api.Task) { t.Trade = "-a" }},
		{api.ErrName, func(t *api.Task) { t.Trade = "\u00e9" }},
		{api.ErrExists, func(t *api.Task) { t.Name = "base" }},
		{api.ErrExists, func(t *api.Task) { t.Name = "post" }},
		{api.ErrExists, func(t *api.Task) { t.Name = "deck" }},
		{api.OK, func(t *api.Task) { t.Name = "Post" }},
		{api.ErrRange, func(t *api.Task) { t.Member = -2 }},
		{api.ErrRange, func(t *api.Task) { t.Member = 4000 }},
		{api.ErrRange, func(t *api.Task) { t.Member = math.MaxInt }},
		{api.ErrRange, func(t *api.Task) { t.Place = -1 }},
		{api.ErrRange, func(t *api.Task) { t.Place = 1000 }},
		{api.ErrRange, func(t *api.Task) { t.Place = math.MinInt }},
		{api.ErrRange, func(t *api.Task) { t.Minutes = -1 }},
		{api.ErrRange, func(t *api.Task) { t.Minutes = 10001 }},
		{api.ErrRange, func(t *api.Task) { t.Minutes = math.MaxInt }},
		{api.ErrMissing, func(t *api.Task) { t.Needs = []int{-1, 0} }},
		{api.ErrMissing, func(t *api.Task) { t.Needs = []int{0, 4} }},
		{api.ErrMissing, func(t *api.Task) { t.Needs = []int{math.MinInt} }},
		{api.ErrMissing, func(t *api.Task) { t.Needs = []int{1, 0, 0, math.MaxInt} }},
		{api.ErrOrder, func(t *api.Task) { t.Needs = []int{0, 0} }},
		{api.ErrOrder, func(t *api.Task) { t.Needs = []int{0, 1, 0} }},
		{api.ErrOrder, func(t *api.Task) { t.Needs = []int{3, 2} }},
		{api.ErrCycle, func(t *api.Task) { t.Needs = []int{2} }},
		{api.ErrCycle, func(t *api.Task) { t.Needs = []int{0, 3} }},
	} {
		l := thePlan()
		x.change(&l[2])
		wantError(t, "Check of a changed task", erection.Check(l), x.is)
	}
}

// P7.1: the order of the errors of tasks. All of them come task by task, but for the first and the last.
func TestCheckOrder(t *testing.T) {
	first, last := 1, 3
	faults := func(at int) [][]fault {
		return [][]fault{
			{
				{api.ErrName, func(x *input) { x.tasks[at].Trade = "" }},
				{api.ErrName, func(x *input) { x.tasks[at].Name += " " }},
			},
			one(api.ErrExists, func(x *input) { x.tasks[at].Name = "base" }),
			{
				{api.ErrRange, func(x *input) { x.tasks[at].Member = -2 }},
				{api.ErrRange, func(x *input) { x.tasks[at].Place = -1 }},
				{api.ErrRange, func(x *input) { x.tasks[at].Minutes = -1 }},
			},
			one(api.ErrMissing, func(x *input) { x.tasks[at].Needs = append(x.tasks[at].Needs, -1) }),
			one(api.ErrOrder, func(x *input) { x.tasks[at].Needs = append([]int{2, 0}, x.tasks[at].Needs...) }),
		}
	}
	large := one(api.ErrLarge, func(x *input) { x.tasks = append(x.tasks, independent(4000)...) })
	circle := one(api.ErrCycle, func(x *input) { x.tasks[2].Needs = []int{0, 3} })
	itself := one(api.ErrCycle, func(x *input) { x.tasks[0].Needs = []int{0} })
	list := slices.Concat([][]fault{large}, faults(first), faults(last), [][]fault{append(circle, itself...)})
	inOrder(t, "Check", func(x input) api.Errno { return erection.Check(x.tasks) }, list...)
}

// P7.1: circles of any length, also behind and before other tasks.
func TestCheckCircles(t *testing.T) {
	for n := 1; n <= 4000; n = 2*n + 1 {
		l := independent(n)
		for i := range n - 1 {
			l[i].Needs = []int{i + 1}
		}
		wantError(t, "Check of a chain", erection.Check(l), api.OK)
		l[n-1].Needs = []int{n / 2}
		wantError(t, "Check of a circle", erection.Check(l), api.ErrCycle)
	}
}

// P7.1: a plan has an order just if no task needs itself by way of others.
func TestCheckByReach(t *testing.T) {
	d := dice()
	circles := 0
	for range 2000 {
		l := independent(1 + d.Intn(6))
		reach := make([][]bool, len(l))
		for i := range l {
			reach[i] = make([]bool, len(l))
			for j := range l {
				if d.Intn(2*len(l)) == 0 {
					l[i].Needs = append(l[i].Needs, j)
					reach[i][j] = true
				}
			}
		}
		for k := range l {
			for i := range l {
				for j := range l {
					reach[i][j] = reach[i][j] || reach[i][k] && reach[k][j]
				}
			}
		}
		right := api.OK
		for i := range l {
			if reach[i][i] {
				right = api.ErrCycle
			}
		}
		if right != api.OK {
			circles++
		}
		wantError(t, "Check", erection.Check(l), right)
	}
	if circles < 300 || circles > 1700 {
		t.Errorf("%d of 2000 plans have circles", circles)
	}
}

// P7.4: the reverse plan of the chapter's examples.
func TestReverse(t *testing.T) {
	right := thePlan()
	right[0].Needs, right[1].Needs, right[2].Needs, right[3].Needs = []int{1, 2}, []int{3}, []int{3}, nil
	got, e := erection.Reverse(thePlan())
	want(t, "Reverse", got, e, right, api.OK)
	got, e = erection.Reverse(nil)
	want(t, "Reverse of no tasks", got, e, []api.Task{}, api.OK)
	inOrder(t, "Reverse", func(x input) api.Errno {
		l, e := erection.Reverse(x.tasks)
		if e != api.OK {
			want(t, "Reverse", l, e, []api.Task{}, e)
		}
		return e
	}, planFault())
}

// P7.4: each task of the reverse plan needs those that needed it, and nothing else is changed.
func TestReverseByDefinition(t *testing.T) {
	d := dice()
	for range 500 {
		l := somePlan(d, 9)
		right := slices.Clone(l)
		for i := range right {
			right[i].Needs = nil
			for j, other := range l {
				if slices.Contains(other.Needs, i) {
					right[i].Needs = append(right[i].Needs, j)
				}
			}
		}
		got, e := erection.Reverse(l)
		want(t, "Reverse", got, e, right, api.OK)
	}
}
