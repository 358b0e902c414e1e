package parts

import (
	"slices"

	"putlog/api"
)

// Free returns the members with a free end.
func Free(s api.Scaffold) ([]int, api.Errno) {
	a, e := accept(s)
	if e != api.OK {
		return nil, e
	}
	holds := a.holds()
	var out []int
	for i, m := range a.Members {
		if a.isFree(m, holds) {
			out = append(out, i)
		}
	}
	return out, api.OK
}

// A hold is what there is at a node to hold members: a standard, and something that a standard stands on.
type hold struct{ standard, foot bool }

// holds returns the holds at all nodes.
func (a accepted) holds() []hold {
	out := make([]hold, len(a.Nodes))
	for _, m := range a.Members {
		switch m.Kind {
		case api.KindStandard:
			out[m.A].standard = true
			out[m.B] = hold{standard: true, foot: true}
		case api.KindBase:
			out[m.A].foot = true
		}
	}
	return out
}

// isFree reports whether a member has a free end.
func (a accepted) isFree(m api.Member, holds []hold) bool {
	if m.Kind == api.KindStandard {
		return !holds[m.A].foot
	}
	return slices.ContainsFunc(a.ends(m), func(n int) bool { return !holds[n].standard })
}
