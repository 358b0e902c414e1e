package statics

import (
	"putlog/api"
	"putlog/exact"
)

// Matrix returns the matrix of a frame.
func Matrix(f api.Frame) ([][]int, api.Errno) {
	if e := Check(f); e != api.OK {
		return nil, e
	}
	return matrix(f), api.OK
}

// Count returns the rank, and how many redundant forces and mechanisms there are.
func Count(f api.Frame) (api.Counting, api.Errno) {
	if e := Check(f); e != api.OK {
		return api.Counting{}, e
	}
	// Supports are alone in their columns, and no two are in one row: they add their number to the rank of the other rows.
	rank, _ := exact.Rank(loosePart(f))
	rank += len(f.Supports)
	return api.Counting{Rank: rank, Redundant: elements(f) - rank, Mechanisms: places(f) - rank}, api.OK
}

// Stresses returns the kernel basis of the matrix.
func Stresses(f api.Frame) ([][]api.Rat, api.Errno) {
	if e := Check(f); e != api.OK {
		return nil, e
	}
	var rows [][]api.Int
	for _, row := range matrix(f) {
		rows = append(rows, wholes(row))
	}
	return echelonOf(rows, elements(f)).kernel(), api.OK
}

// Motions returns the kernel basis of the transposed matrix.
func Motions(f api.Frame) ([][]api.Rat, api.Errno) {
	if e := Check(f); e != api.OK {
		return nil, e
	}
	return freeMotions(f), api.OK
}

func matrix(f api.Frame) [][]int {
	m := make([][]int, places(f))
	for i := range m {
		m[i] = make([]int, elements(f))
	}
	for j, b := range f.Bars {
		for k, d := range difference(f, b) {
			m[3*b.A+k][j] = d
			m[3*b.B+k][j] = -d
		}
	}
	for j, s := range f.Supports {
		m[place(s)][len(f.Bars)+j] = 1
	}
	return m
}

// isSupported says of each place whether a support is there.
func isSupported(f api.Frame) []bool {
	out := make([]bool, places(f))
	for _, s := range f.Supports {
		out[place(s)] = true
	}
	return out
}

// loosePlaces returns the places without a support.
func loosePlaces(f api.Frame) []int {
	var out []int
	for i, is := range isSupported(f) {
		if !is {
			out = append(out, i)
		}
	}
	return out
}

// loosePart returns the rows of the matrix at the places without a support. They have the columns of bars only.
func loosePart(f api.Frame) [][]api.Rat {
	m := matrix(f)
	var out [][]api.Rat
	for _, i := range loosePlaces(f) {
		out = append(out, wholeVector(m[i][:len(f.Bars)]).fractions())
	}
	return out
}

// freeMotions is Motions without its errors. No support moves, so that its place is left out of the equations.
func freeMotions(f api.Frame) [][]api.Rat {
	loose := loosePlaces(f)
	m := lengthenings(f)
	if len(m) == 0 { // where there are no bars, a row of zeros tells how many columns there are
		m = append(m, zeros(len(loose)))
	}
	basis, _ := exact.Kernel(m)
	for i, v := range basis {
		basis[i] = spread(v, loose, places(f))
	}
	return basis
}

// lengthenings has for each bar a row that tells how much the motion 1 at each place without a support lengthens it.
func lengthenings(f api.Frame) [][]api.Rat {
	loose := loosePlaces(f)
	m := matrix(f)
	var out [][]api.Rat
	for j := range f.Bars {
		row := make([]api.Rat, len(loose))
		for k, i := range loose {
			row[k] = exact.Whole(-m[i][j])
		}
		out = append(out, row)
	}
	return out
}

// spread returns n elements: those of l at the places at, and 0 elsewhere.
func spread(l []api.Rat, at []int, n int) []api.Rat {
	out := zeros(n)
	for k, i := range at {
		out[i] = exact.Normal(l[k])
	}
	return out
}
