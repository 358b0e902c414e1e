package erection

import "putlog/api"

// Fewest returns the first order lexicographically of those with the fewest handlings, and their number.
func Fewest(l []api.Task) ([]int, int, api.Errno) {
	s, e := smallOf(l)
	if e != api.OK {
		return nil, 0, e
	}
	least := s.leastHandlings()
	var out []int
	last := len(l)
	for left := s.all(); left > 0; left &^= 1 << last {
		last, _ = s.best(least, left, last)
		out = append(out, last)
	}
	return out, least[s.all()][len(l)], api.OK
}

// Orders returns the number of orders.
func Orders(l []api.Task) (int, api.Errno) {
	s, e := smallOf(l)
	if e != api.OK {
		return 0, e
	}
	orders := make([]int, s.all()+1) // of each set of tasks that are left
	orders[0] = 1
	for left := range s.all() + 1 {
		for t := range len(l) {
			if s.isNext(left, t) {
				orders[left] += orders[left&^(1<<t)]
			}
		}
	}
	return orders[s.all()], api.OK
}

// A small plan has so few tasks that all sets of them can be gone through. A set is a number: it has the
// bit t if it contains the task t.
type small struct {
	tasks []api.Task
	needs []int
}

// smallOf returns the small plan with tasks.
func smallOf(l []api.Task) (small, api.Errno) {
	if e := Check(l); e != api.OK {
		return small{}, e
	}
	if len(l) > api.MaxExact {
		return small{}, api.ErrLarge
	}
	s := small{l, make([]int, len(l))}
	for t, task := range l {
		for _, n := range task.Needs {
			s.needs[t] |= 1 << n
		}
	}
	return s, api.OK
}

// all returns the set of all tasks.
func (s small) all() int { return 1<<len(s.tasks) - 1 }

// isNext reports whether a task is one of those that are left, and needs none of them.
func (s small) isNext(left, t int) bool { return left>>t&1 == 1 && s.needs[t]&left == 0 }

// A table has the least handlings that are still to come, for each set of tasks that are left and for each
// task that was done last; behind the last task is the place for none.
type table [][api.MaxExact + 1]int

// leastHandlings returns the table of all sets, each of them made from smaller ones.
func (s small) leastHandlings() table {
	least := make(table, s.all()+1)
	for left := range s.all() + 1 {
		for last := range len(s.tasks) + 1 {
			_, least[left][last] = s.best(least, left, last)
		}
	}
	return least
}

// best returns the first task with which the fewest handlings are still to come, and their number. Some
// task is always next, as tasks do not need each other in a circle.
func (s small) best(least table, left, last int) (task, handlings int) {
	if left == 0 {
		return 0, 0
	}
	handlings = len(s.tasks) + 1 // more than there can be
	for t := range s.tasks {
		if !s.isNext(left, t) {
			continue
		}
		n := least[left&^(1<<t)][t]
		if last < len(s.tasks) && s.tasks[last].Place != s.tasks[t].Place {
			n++
		}
		if n < handlings {
			task, handlings = t, n
		}
	}
	return task, handlings
}
