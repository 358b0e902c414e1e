package statics

import (
	"slices"

	"putlog/api"
)

// Check accepts a frame.
func Check(f api.Frame) api.Errno {
	if len(f.Nodes) > api.MaxJoints || len(f.Bars) > api.MaxBars || len(f.Supports) > api.MaxSupports {
		return api.ErrLarge
	}
	for i, n := range f.Nodes {
		if e := nodeError(n, f.Nodes[:i]); e != api.OK {
			return e
		}
	}
	for i, b := range f.Bars {
		if e := barError(f, b, f.Bars[:i]); e != api.OK {
			return e
		}
	}
	for i, s := range f.Supports {
		if e := supportError(f, s, f.Supports[:i]); e != api.OK {
			return e
		}
	}
	return api.OK
}

func nodeError(n api.Node, earlier []api.Node) api.Errno {
	switch {
	case !isWithin(api.MaxCoord, n.X, n.Y, n.Z):
		return api.ErrRange
	case slices.Contains(earlier, n):
		return api.ErrClash
	}
	return api.OK
}

func barError(f api.Frame, b api.Bar, earlier []api.Bar) api.Errno {
	joinsTheSame := func(o api.Bar) bool { return o.A == b.A && o.B == b.B || o.A == b.B && o.B == b.A }
	switch {
	case !hasNode(f, b.A) || !hasNode(f, b.B):
		return api.ErrMissing
	case b.A == b.B:
		return api.ErrForm
	case slices.ContainsFunc(earlier, joinsTheSame):
		return api.ErrExists
	case sign(b.Flex) <= 0:
		return api.ErrRange
	}
	return api.OK
}

func supportError(f api.Frame, s api.Support, earlier []api.Support) api.Errno {
	holdsTheSame := func(o api.Support) bool { return o.Node == s.Node && o.Axis == s.Axis }
	switch {
	case !hasNode(f, s.Node):
		return api.ErrMissing
	case s.Axis < 0 || s.Axis > 2:
		return api.ErrRange
	case slices.ContainsFunc(earlier, holdsTheSame):
		return api.ErrExists
	case sign(s.Flex) < 0:
		return api.ErrRange
	}
	return api.OK
}

// CheckLoads accepts loads of a frame.
func CheckLoads(f api.Frame, l []api.Load) api.Errno {
	if e := Check(f); e != api.OK {
		return e
	}
	return loadsError(len(f.Nodes), l)
}

// loadsError returns the error of loads of so many nodes.
func loadsError(nodes int, l []api.Load) api.Errno {
	if len(l) > api.MaxLoads {
		return api.ErrLarge
	}
	for _, load := range l {
		switch {
		case load.Node < 0 || load.Node >= nodes:
			return api.ErrMissing
		case !isWithin(api.MaxForce, load.X, load.Y, load.Z):
			return api.ErrRange
		}
	}
	return api.OK
}

// isWithin reports whether none of some numbers is greater in size than most.
func isWithin(most int, numbers ...int) bool {
	return !slices.ContainsFunc(numbers, func(n int) bool { return n < -most || n > most })
}

func hasNode(f api.Frame, n int) bool { return n >= 0 && n < len(f.Nodes) }

// elements returns the number of elements of a frame.
func elements(f api.Frame) int { return len(f.Bars) + len(f.Supports) }

// places returns the number of directions in which the nodes of a frame move: three for each.
func places(f api.Frame) int { return 3 * len(f.Nodes) }

// place returns the place of the direction of a support.
func place(s api.Support) int { return 3*s.Node + s.Axis }

// difference returns the node B of a bar less its node A.
func difference(f api.Frame, b api.Bar) [3]int {
	from, to := f.Nodes[b.A], f.Nodes[b.B]
	return [3]int{to.X - from.X, to.Y - from.Y, to.Z - from.Z}
}

// loadVector returns the load vector.
func loadVector(f api.Frame, l []api.Load) []int {
	p := make([]int, places(f))
	for _, load := range l {
		p[3*load.Node] += load.X
		p[3*load.Node+1] += load.Y
		p[3*load.Node+2] += load.Z
	}
	return p
}
