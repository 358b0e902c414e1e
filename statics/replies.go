package statics

import (
	"putlog/api"
	"putlog/exact"
)

// Carry returns forces in equilibrium with loads, or a free motion on which they do the work 1.
func Carry(f api.Frame, l []api.Load) (api.Reply, api.Errno) {
	if e := CheckLoads(f, l); e != api.OK {
		return api.Reply{}, e
	}
	p := loadVector(f, l)
	if u := movedBy(f, p); u != nil {
		return api.Reply{Kind: 1, Motion: u}, api.OK
	}
	return api.Reply{Forces: basicForces(f, p)}, api.OK
}

// CheckReply accepts forces in equilibrium with loads, or a free motion on which they do the work 1.
func CheckReply(f api.Frame, l []api.Load, r api.Reply) api.Errno {
	if e := CheckLoads(f, l); e != api.OK {
		return e
	}
	p := wholeVector(loadVector(f, l))
	right := false
	switch r.Kind {
	case 0:
		right = len(r.Motion) == 0 && isBalanced(f, r.Forces, p)
	case 1:
		right = len(r.Forces) == 0 && isMoved(f, r.Motion, p) && lengthensNone(f, vectorOf(r.Motion))
	}
	if !right {
		return api.ErrProof
	}
	return api.OK
}

// movedBy returns a free motion on which a load vector does the work 1, or nil if there is none.
func movedBy(f api.Frame, p []int) []api.Rat {
	loads := wholeVector(p)
	for _, u := range freeMotions(f) {
		if work := product(loads, vectorOf(u)); sign(work) != 0 {
			return scaled(u, over(exact.Whole(1), work))
		}
	}
	return nil
}

// basicForces returns the basic solution for a load vector that is carried.
func basicForces(f api.Frame, p []int) []api.Rat {
	n := elements(f)
	var rows [][]api.Int
	for i, row := range matrix(f) {
		rows = append(rows, wholes(append(row, -p[i])))
	}
	return echelonOf(rows, n+1).solution(n, n).fractions()
}

// isMoved reports whether a list is a motion that moves no support in its direction, and on which a load
// vector does the work 1.
func isMoved(f api.Frame, motion []api.Rat, p vector) bool {
	if len(motion) != places(f) {
		return false
	}
	u := vectorOf(motion)
	for _, s := range f.Supports {
		if !isZero(u.nums[place(s)]) {
			return false
		}
	}
	return exact.Cmp(product(p, u), exact.Whole(1)) == 0
}

// lengthensNone reports whether a motion lengthens no bar.
func lengthensNone(f api.Frame, u vector) bool {
	for _, b := range f.Bars {
		if !isZero(lengthening(f, b, u)) {
			return false
		}
	}
	return true
}
