package statics

import (
	"putlog/api"
	"putlog/exact"
)

// Stiffness returns the stiffness of a frame with forces.
func Stiffness(f api.Frame, x []api.Rat) ([][]api.Rat, api.Errno) {
	if e := forcesError(f, x); e != api.OK {
		return nil, e
	}
	return stiffness(f, x), api.OK
}

// Stable reports whether a frame is stable with forces.
func Stable(f api.Frame, x []api.Rat) (bool, api.Errno) {
	if e := forcesError(f, x); e != api.OK {
		return false, e
	}
	return isStable(f, x), api.OK
}

// fine is how many parts of 1 are told apart where forces are rounded.
const fine = 1 << 40

// isStable is Stable without its errors. The matrix of forces with long numbers takes long to be decided.
// But no greater force makes a frame less stable: if it is stable with less forces, or not with greater
// ones, that decides it. So forces rounded down and up are tried first.
func isStable(f api.Frame, x []api.Rat) bool {
	if isDefinite(stiffness(f, roundedDown(x))) {
		return true
	}
	if !isDefinite(stiffness(f, roundedUp(x))) {
		return false
	}
	return isDefinite(stiffness(f, x))
}

func isDefinite(m [][]api.Rat) bool {
	is, _ := exact.Definite(m)
	return is
}

func roundedDown(x []api.Rat) []api.Rat {
	out := make([]api.Rat, len(x))
	for i, y := range x {
		whole := exact.Floor(exact.Mul(y, exact.Whole(fine)))
		out[i] = api.Rat{Num: whole, Den: exact.Of(fine)}
	}
	return out
}

func roundedUp(x []api.Rat) []api.Rat {
	return scaled(roundedDown(scaled(x, exact.Whole(-1))), exact.Whole(-1))
}

// freeDirections returns the places without a rigid support.
func freeDirections(f api.Frame) []int {
	rigid := make([]bool, places(f))
	for _, s := range f.Supports {
		rigid[place(s)] = sign(s.Flex) == 0
	}
	var out []int
	for i, is := range rigid {
		if !is {
			out = append(out, i)
		}
	}
	return out
}

// stiffness is Stiffness without its errors.
func stiffness(f api.Frame, x []api.Rat) [][]api.Rat {
	all := make([][]api.Rat, places(f))
	for i := range all {
		all[i] = zeros(places(f))
	}
	for j, b := range f.Bars {
		addBar(all, f, b, x[j])
	}
	for _, s := range f.Supports {
		if i := place(s); sign(s.Flex) > 0 {
			all[i][i] = exact.Add(all[i][i], over(exact.Whole(1), s.Flex))
		}
	}
	free := freeDirections(f)
	out := make([][]api.Rat, len(free))
	for i, row := range free {
		for _, column := range free {
			out[i] = append(out[i], all[row][column])
		}
	}
	return out
}

// addBar adds to a matrix over all places what a bar with the force density x adds to it.
func addBar(all [][]api.Rat, f api.Frame, b api.Bar, x api.Rat) {
	d := difference(f, b)
	for k := range 3 {
		for l := range 3 {
			v := over(exact.Whole(d[k]*d[l]), b.Flex)
			if k == l {
				v = exact.Add(v, x)
			}
			for _, at := range [][2]int{{3*b.A + k, 3*b.A + l}, {3*b.B + k, 3*b.B + l}} {
				all[at[0]][at[1]] = exact.Add(all[at[0]][at[1]], v)
			}
			for _, at := range [][2]int{{3*b.A + k, 3*b.B + l}, {3*b.B + k, 3*b.A + l}} {
				all[at[0]][at[1]] = exact.Sub(all[at[0]][at[1]], v)
			}
		}
	}
}
