package erection

import (
	"slices"

	"putlog/api"
)

// Ready returns the tasks that are ready in a stage.
func Ready(l []api.Task, done []int) ([]int, api.Errno) {
	isStage, e := Closed(l, done)
	if e != api.OK {
		return nil, e
	}
	if !isStage {
		return nil, api.ErrState
	}
	lacks := lacking(len(l), done)
	var out []int
	for t := range l {
		if lacks(t) && !slices.ContainsFunc(l[t].Needs, lacks) {
			out = append(out, t)
		}
	}
	return out, api.OK
}

// Closed reports whether a list is a stage.
func Closed(l []api.Task, done []int) (bool, api.Errno) {
	if e := Check(l); e != api.OK {
		return false, e
	}
	if e := listError(done, len(l)); e != api.OK {
		return false, e
	}
	lacks := lacking(len(l), done)
	isEarly := func(t int) bool { return slices.ContainsFunc(l[t].Needs, lacks) }
	return !slices.ContainsFunc(done, isEarly), api.OK
}

// lacking returns a function that reports whether one of so many tasks is missing in a list.
func lacking(tasks int, list []int) func(t int) bool {
	in := make([]bool, tasks)
	for _, t := range list {
		in[t] = true
	}
	return func(t int) bool { return !in[t] }
}
