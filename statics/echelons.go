package statics

import (
	"slices"

	"putlog/api"
	"putlog/exact"
)

// Package exact takes matrices of at most 60 columns, but a frame may have 120 elements, and a system of
// equations the right sides of 16 load cases. So echelon forms of more columns are made here.

// An echelon is a reduced echelon form: its elements are those of rows, divided by den. Its integers are
// minors of the matrix that it is made of, so they stay small, and the division by the pivot before
// leaves no rest (Bareiss).
type echelon struct {
	rows   [][]api.Int
	pivots []int // the columns of the pivots, row by row
	width  int
	den    api.Int
}

// echelonOf makes the echelon form of a matrix of rows with so many elements, in the memory of the rows.
func echelonOf(rows [][]api.Int, width int) *echelon {
	e := &echelon{rows: rows, width: width, den: exact.Of(1)}
	for c := range width {
		r := len(e.pivots)
		at := slices.IndexFunc(e.rows[r:], func(row []api.Int) bool { return !isZero(row[c]) })
		if at < 0 {
			continue
		}
		e.rows[r], e.rows[r+at] = e.rows[r+at], e.rows[r]
		e.clearColumn(r, c)
		e.pivots = append(e.pivots, c)
	}
	return e
}

// clearColumn makes the element of row r the only one in column c.
func (e *echelon) clearColumn(r, c int) {
	pivotRow := e.rows[r]
	for i, row := range e.rows {
		if i == r {
			continue
		}
		factor := row[c]
		for j := range row {
			row[j] = e.cross(pivotRow[c], row[j], factor, pivotRow[j])
		}
	}
	e.den = pivotRow[c]
}

// cross returns (a d - b c)/den, which leaves no rest.
func (e *echelon) cross(a, d, b, c api.Int) api.Int {
	switch {
	case !isZero(b) && !isZero(c):
		return quotient(exact.Diff(exact.Prod(a, d), exact.Prod(b, c)), e.den)
	case !isZero(d):
		return quotient(exact.Prod(a, d), e.den)
	}
	return api.Int{}
}

// solution returns the list of n elements that is what the first n columns must be taken times to make
// up column c, if it has no pivot, and that is 0 where they have no pivot.
func (e *echelon) solution(n, c int) vector {
	x := vector{nums: make([]api.Int, n), den: e.den}
	for row, pivot := range e.pivots {
		x.nums[pivot] = e.rows[row][c]
	}
	if x.den.Neg {
		x.den = negative(x.den)
		for i, num := range x.nums {
			x.nums[i] = negative(num)
		}
	}
	return x
}

// kernel returns the kernel basis.
func (e *echelon) kernel() [][]api.Rat {
	var basis [][]api.Rat
	for free := range e.width {
		if slices.Contains(e.pivots, free) {
			continue
		}
		v := e.solution(e.width, free).times(exact.Whole(-1)).fractions()
		v[free] = exact.Whole(1)
		basis = append(basis, v)
	}
	return basis
}
