package statics

import (
	"putlog/api"
	"putlog/exact"
)

// Forces returns the forces of a frame under loads.
func Forces(f api.Frame, l []api.Load) ([]api.Rat, api.Errno) {
	if e := CheckLoads(f, l); e != api.OK {
		return nil, e
	}
	r := respond(f, l)
	if !r.carried {
		return nil, api.ErrLoose
	}
	return r.forces(0).fractions(), api.OK
}

// CheckForces accepts the forces of a frame under loads.
func CheckForces(f api.Frame, l []api.Load, x []api.Rat) api.Errno {
	if e := CheckLoads(f, l); e != api.OK {
		return e
	}
	if len(x) != elements(f) {
		return api.ErrShape
	}
	if r := respond(f, l); !r.carried || !r.forces(0).hasValues(x) {
		return api.ErrProof
	}
	return api.OK
}

// Displace returns the displacements of a firm frame under loads, and its forces.
func Displace(f api.Frame, l []api.Load) (u, x []api.Rat, e api.Errno) {
	if e := CheckLoads(f, l); e != api.OK {
		return nil, nil, e
	}
	r := respond(f, l)
	if !r.firm {
		return nil, nil, api.ErrLoose
	}
	return r.motion(0).fractions(), r.forces(0).fractions(), api.OK
}

// Energy returns half the sum of the flexibilities times the squares of forces.
func Energy(f api.Frame, x []api.Rat) (api.Rat, api.Errno) {
	if e := forcesError(f, x); e != api.OK {
		return api.Rat{}, e
	}
	var flexes []api.Rat
	for _, b := range f.Bars {
		flexes = append(flexes, b.Flex)
	}
	for _, s := range f.Supports {
		flexes = append(flexes, s.Flex)
	}
	v := vectorOf(x)
	squares := vector{nums: make([]api.Int, len(x)), den: exact.Prod(v.den, v.den)}
	for i, n := range v.nums {
		squares.nums[i] = exact.Prod(n, n)
	}
	return over(product(vectorOf(flexes), squares), exact.Whole(2)), api.OK
}

// forcesError returns the error of a frame, or of forces.
func forcesError(f api.Frame, x []api.Rat) api.Errno {
	if e := Check(f); e != api.OK {
		return e
	}
	if len(x) != elements(f) {
		return api.ErrShape
	}
	return api.OK
}

// A response is what a frame does under load cases. The stiffness times the motion is the load vector at
// the free directions; this tells a motion, and with it the forces, also if the frame is not firm: what
// is free in the motion lengthens no bar.
type response struct {
	frame   api.Frame
	vectors []vector // the load vectors of the cases
	free    []int    // the free directions
	solved  *echelon
	firm    bool
	carried bool // whether all cases are
}

// respond returns the response of a frame to load cases.
func respond(f api.Frame, cases ...[]api.Load) response {
	r := response{frame: f, free: freeDirections(f)}
	m := stiffness(f, zeros(elements(f)))
	for _, l := range cases {
		p := loadVector(f, l)
		for i, at := range r.free {
			m[i] = append(m[i], exact.Whole(p[at]))
		}
		r.vectors = append(r.vectors, wholeVector(p))
	}
	var rows [][]api.Int
	for _, row := range m {
		rows = append(rows, vectorOf(row).nums)
	}
	n := len(r.free)
	r.solved = echelonOf(rows, n+len(cases))
	rank := len(r.solved.pivots)
	r.carried = rank == 0 || r.solved.pivots[rank-1] < n
	r.firm = r.carried && rank == n
	return r
}

// motion returns a motion of the frame under a case that is carried: the only one if the frame is firm.
func (r response) motion(number int) vector {
	n := len(r.free)
	v := r.solved.solution(n, n+number)
	u := vector{nums: make([]api.Int, places(r.frame)), den: v.den}
	for i, at := range r.free {
		u.nums[at] = v.nums[i]
	}
	return u
}

// forces returns the forces of the frame under a case that is carried; the denominators of all cases are
// the same.
func (r response) forces(number int) vector {
	u := r.motion(number)
	stiff := make([]api.Rat, len(r.frame.Bars))
	for i, b := range r.frame.Bars {
		stiff[i] = over(exact.Whole(1), b.Flex)
	}
	bars := vectorOf(stiff)
	for i, b := range r.frame.Bars {
		bars.nums[i] = exact.Prod(bars.nums[i], lengthening(r.frame, b, u))
	}
	bars.den = exact.Prod(bars.den, u.den)
	return withSupports(r.frame, bars, r.vectors[number])
}
