package statics

import (
	"putlog/api"
	"putlog/exact"
)

// Influence returns the force of an element under each case.
func Influence(f api.Frame, cases [][]api.Load, element int) ([]api.Rat, api.Errno) {
	if e := casesError(f, cases); e != api.OK {
		return nil, e
	}
	if element < 0 || element >= elements(f) {
		return nil, api.ErrMissing
	}
	r := respond(f, cases...)
	if !r.carried {
		return nil, api.ErrLoose
	}
	var out []api.Rat
	for number := range cases {
		out = append(out, r.forces(number).at(element))
	}
	return out, api.OK
}

// Worst returns the range of the force of each element, if each case may be there or not.
func Worst(f api.Frame, cases [][]api.Load) ([]api.Envelope, api.Errno) {
	if e := casesError(f, cases); e != api.OK {
		return nil, e
	}
	r := respond(f, cases...)
	if !r.carried {
		return nil, api.ErrLoose
	}
	var forces []vector
	for number := range cases {
		forces = append(forces, r.forces(number))
	}
	var out []api.Envelope
	for element := range elements(f) {
		out = append(out, envelope(forces, element))
	}
	return out, api.OK
}

// casesError returns the error of a frame, or of cases.
func casesError(f api.Frame, cases [][]api.Load) api.Errno {
	if e := Check(f); e != api.OK {
		return e
	}
	if len(cases) > api.MaxCases {
		return api.ErrLarge
	}
	for _, l := range cases {
		if e := loadsError(len(f.Nodes), l); e != api.OK {
			return e
		}
	}
	return api.OK
}

// envelope returns the range of the force of an element, and the cases that make its ends. The forces of
// all cases have one denominator.
func envelope(forces []vector, element int) api.Envelope {
	var out api.Envelope
	var low, high api.Rat
	for number, x := range forces {
		n := x.nums[element]
		low.Den, high.Den = x.den, x.den
		switch {
		case n.Neg:
			low.Num = exact.Sum(low.Num, n)
			out.LowCases = append(out.LowCases, number)
		case !isZero(n):
			high.Num = exact.Sum(high.Num, n)
			out.HighCases = append(out.HighCases, number)
		}
	}
	out.Range = api.Range{Low: exact.Normal(low), High: exact.Normal(high)}
	return out
}
