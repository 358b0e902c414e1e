package erection

import (
	"slices"

	"putlog/api"
	"putlog/spelling"
)

const (
	maxPlace   = 999
	maxMinutes = 10000
)

// A plan is tasks in which Check finds no error, and what follows from their needs.
type plan struct {
	tasks []api.Task
	users [][]int // for each task those that need it, ascending
	order []int   // the first order lexicographically
}

// Check accepts what is a plan.
func Check(l []api.Task) api.Errno {
	_, e := planOf(l)
	return e
}

// Reverse returns the reverse plan.
func Reverse(l []api.Task) ([]api.Task, api.Errno) {
	p, e := planOf(l)
	if e != api.OK {
		return nil, e
	}
	return p.reverse(), api.OK
}

func (p plan) reverse() []api.Task {
	out := slices.Clone(p.tasks)
	for t := range out {
		out[t].Needs = p.users[t]
	}
	return out
}

// planOf returns the plan with tasks, or the first error.
func planOf(l []api.Task) (plan, api.Errno) {
	if len(l) > api.MaxTasks {
		return plan{}, api.ErrLarge
	}
	earlier := map[string]bool{}
	for _, t := range l {
		if e := taskError(t, earlier, len(l)); e != api.OK {
			return plan{}, e
		}
		earlier[t.Name] = true
	}
	p := plan{tasks: l, users: usersOf(l)}
	p.order = p.firstOrder()
	if len(p.order) < len(l) { // tasks that wait for each other never become ready
		return plan{}, api.ErrCycle
	}
	return p, api.OK
}

// taskError is the first error of one of so many tasks, but for ErrCycle.
func taskError(t api.Task, earlier map[string]bool, tasks int) api.Errno {
	switch {
	case !spelling.IsName(t.Name) || !spelling.IsName(t.Trade):
		return api.ErrName
	case earlier[t.Name]:
		return api.ErrExists
	case !isFrom(-1, api.MaxMembers-1, t.Member) || !isFrom(0, maxPlace, t.Place) || !isFrom(0, maxMinutes, t.Minutes):
		return api.ErrRange
	}
	return listError(t.Needs, tasks)
}

// listError is the error of a list of some of so many tasks.
func listError(l []int, tasks int) api.Errno {
	isMissing := func(t int) bool { return !isFrom(0, tasks-1, t) }
	if slices.ContainsFunc(l, isMissing) {
		return api.ErrMissing
	}
	for i := 1; i < len(l); i++ {
		if l[i-1] >= l[i] {
			return api.ErrOrder
		}
	}
	return api.OK
}

// isFrom reports whether a number is from least to most.
func isFrom(least, most, n int) bool { return least <= n && n <= most }

// usersOf returns for each task those that need it.
func usersOf(l []api.Task) [][]int {
	out := make([][]int, len(l))
	for t, task := range l {
		for _, n := range task.Needs {
			out[n] = append(out[n], t)
		}
	}
	return out
}

// firstOrder returns the first order lexicographically. It lacks tasks that need each other in a circle,
// and those that need such tasks.
func (p plan) firstOrder() []int {
	waits := make([]int, len(p.tasks)) // for so many tasks
	var ready, out []int
	for t, task := range p.tasks {
		waits[t] = len(task.Needs)
		if waits[t] == 0 {
			ready = append(ready, t)
		}
	}
	for len(ready) > 0 {
		t := ready[0]
		ready = ready[1:]
		out = append(out, t)
		for _, u := range p.users[t] {
			waits[u]--
			if waits[u] == 0 {
				at, _ := slices.BinarySearch(ready, u)
				ready = slices.Insert(ready, at, u)
			}
		}
	}
	return out
}
