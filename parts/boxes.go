package parts

import (
	"slices"

	"putlog/api"
	"putlog/building"
)

// Blocked returns the members that meet one of the boxes.
func Blocked(s api.Scaffold, boxes []api.Box) ([]int, api.Errno) {
	a, e := accept(s)
	if e != api.OK {
		return nil, e
	}
	if len(boxes) > api.MaxBoxes {
		return nil, api.ErrLarge
	}
	for _, x := range boxes {
		if e := building.CheckBox(x); e != api.OK {
			return nil, e
		}
	}
	var out []int
	for i, m := range a.Members {
		if slices.ContainsFunc(boxes, func(x api.Box) bool { return a.meets(m, x) }) {
			out = append(out, i)
		}
	}
	return out, api.OK
}

// meets reports whether a member meets a box.
func (a accepted) meets(m api.Member, x api.Box) bool {
	p, q := a.Nodes[m.A], a.Nodes[m.B]
	if m.Kind == api.KindBrace {
		is, _ := building.Pierces(x, p, q)
		return is
	}
	// All other members are all the points from p to q, as a box is, though a flat one.
	return enters(p.X, q.X, x.X1, x.X2) && enters(p.Y, q.Y, x.Y1, x.Y2) && enters(p.Z, q.Z, x.Z1, x.Z2)
}

// enters reports whether a number from a to b is strictly between low and high.
func enters(a, b, low, high int) bool { return a < high && low < b }
