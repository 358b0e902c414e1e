package erection

import (
	"slices"
	"strconv"

	"putlog/api"
	"putlog/parts"
)

// unitHeight is the height of a place, in millimetres.
const unitHeight = 1000

// FromScaffold returns the plan of a scaffold.
func FromScaffold(s api.Scaffold) ([]api.Task, api.Errno) {
	if e := parts.Check(s); e != api.OK {
		return nil, e
	}
	x := indexOf(s)
	var out []api.Task
	for i, m := range s.Members {
		out = append(out, api.Task{
			Name:    "m" + strconv.Itoa(i),
			Trade:   "scaffolder",
			Member:  i,
			Place:   min(max(s.Nodes[m.A].Z/unitHeight, 0), maxPlace),
			Minutes: minutesFor(m.Kind),
			Needs:   slices.Sorted(slices.Values(x.needs(m))),
		})
	}
	return out, api.OK
}

// minutesFor returns the minutes that a member of a kind takes.
func minutesFor(kind int) int {
	switch kind {
	case api.KindStandard:
		return 10
	case api.KindGuardrail, api.KindToeBoard:
		return 4
	case api.KindDeck:
		return 6
	case api.KindLadder:
		return 8
	case api.KindTie:
		return 12
	case api.KindBase:
		return 3
	}
	return 5
}

// Stage returns the scaffold with all nodes and the members of the tasks that are done.
func Stage(s api.Scaffold, l []api.Task, done []int) (api.Scaffold, api.Errno) {
	if e := parts.Check(s); e != api.OK {
		return api.Scaffold{}, e
	}
	if e := Check(l); e != api.OK {
		return api.Scaffold{}, e
	}
	isMissing := func(t api.Task) bool { return t.Member >= len(s.Members) }
	if slices.ContainsFunc(l, isMissing) {
		return api.Scaffold{}, api.ErrMissing
	}
	if e := listError(done, len(l)); e != api.OK {
		return api.Scaffold{}, e
	}
	out := api.Scaffold{Nodes: slices.Clone(s.Nodes)}
	for _, t := range done {
		if m := l[t].Member; m >= 0 {
			out.Members = append(out.Members, s.Members[m])
		}
	}
	return out, api.OK
}

// Stable returns the number of the first loose standard, or -1.
func Stable(s api.Scaffold, free int) (int, api.Errno) {
	if e := parts.Check(s); e != api.OK {
		return 0, e
	}
	if !isFrom(0, api.MaxCoord, free) {
		return 0, api.ErrRange
	}
	x := indexOf(s)
	return slices.IndexFunc(s.Members, func(m api.Member) bool {
		return m.Kind == api.KindStandard && !x.isHeld(m, free)
	}), api.OK
}
