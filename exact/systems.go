package exact

import (
	"slices"

	"putlog/api"
)

// Rank returns the rank of m.
func Rank(m [][]api.Rat) (int, api.Errno) {
	if e := matrixError(m); e != api.OK {
		return 0, e
	}
	return len(echelonOf(m).pivots), api.OK
}

// Kernel returns the kernel basis of m.
func Kernel(m [][]api.Rat) ([][]api.Rat, api.Errno) {
	if e := matrixError(m); e != api.OK {
		return nil, e
	}
	return echelonOf(m).kernel(width(m)), api.OK
}

// Solve returns all solutions of m x = b, or a contradiction.
func Solve(m [][]api.Rat, b []api.Rat) (api.Solution, api.Errno) {
	if e := systemError(m, b); e != api.OK {
		return api.Solution{}, e
	}
	return solve(m, b), api.OK
}

// CheckSolution accepts what Solve may return.
func CheckSolution(m [][]api.Rat, b []api.Rat, s api.Solution) api.Errno {
	if e := systemError(m, b); e != api.OK {
		return e
	}
	right := false
	switch s.Kind {
	case 0:
		right = len(s.Proof) == 0 && isSolution(s, solve(m, b))
	case 1:
		right = len(s.X) == 0 && len(s.Kernel) == 0 && contradicts(m, b, s.Proof)
	}
	if !right {
		return api.ErrProof
	}
	return api.OK
}

func systemError(m [][]api.Rat, b []api.Rat) api.Errno {
	if e := matrixError(m); e != api.OK {
		return e
	}
	if len(b) != len(m) {
		return api.ErrShape
	}
	return api.OK
}

// solve is Solve without its errors.
func solve(m [][]api.Rat, b []api.Rat) api.Solution {
	joined := make([][]api.Rat, len(m))
	for i, row := range m {
		joined[i] = append(slices.Clone(row), b[i])
	}
	e := echelonOf(joined)
	n := width(m)
	if slices.Contains(e.pivots, n) {
		return api.Solution{Kind: 1, Proof: contradiction(m, b)}
	}
	return api.Solution{X: e.basic(n), Kernel: e.kernel(n)}
}

// contradiction returns a list y with y m = 0 and y b = 1. There is one if m x = b has no solution.
func contradiction(m [][]api.Rat, b []api.Rat) []api.Rat {
	var turned [][]api.Rat
	for j := range width(m) {
		turned = append(turned, column(m, j))
	}
	return solve(append(turned, b), append(zeros(width(m)), Whole(1))).X
}

// isSolution reports whether s has the values of the solution t.
func isSolution(s, t api.Solution) bool {
	return t.Kind == 0 && sameList(s.X, t.X) && slices.EqualFunc(s.Kernel, t.Kernel, sameList)
}

// contradicts reports whether y m = 0 and y b = 1.
func contradicts(m [][]api.Rat, b, y []api.Rat) bool {
	if len(y) != len(m) {
		return false
	}
	v := vectorOf(y)
	for j := range width(m) {
		if signOfRat(dot(vectorOf(column(m, j)), v)) != 0 {
			return false
		}
	}
	return Cmp(dot(vectorOf(b), v), Whole(1)) == 0
}

// An echelon is a reduced echelon form: its elements are those of rows, divided by den. Its integers are
// minors of the matrix whose rows have been made whole. So they stay small, and the division by the
// pivot before leaves no rest (Bareiss).
type echelon struct {
	rows   [][]api.Int
	pivots []int // the columns of the pivots, row by row
	den    api.Int
}

// echelonOf returns the echelon form of m.
func echelonOf(m [][]api.Rat) *echelon {
	e := &echelon{rows: make([][]api.Int, len(m)), den: Of(1)}
	for i, row := range m {
		e.rows[i] = vectorOf(row).nums
	}
	for c := range width(m) {
		r := len(e.pivots)
		at := slices.IndexFunc(e.rows[r:], func(row []api.Int) bool { return !isZero(row[c]) })
		if at < 0 {
			continue
		}
		e.rows[r], e.rows[r+at] = e.rows[r+at], e.rows[r]
		e.clearColumn(r, c)
		e.pivots = append(e.pivots, c)
	}
	return e
}

// clearColumn makes the element of row r the only one in column c.
func (e *echelon) clearColumn(r, c int) {
	pivotRow := e.rows[r]
	for i, row := range e.rows {
		if i == r {
			continue
		}
		factor := row[c]
		for j := range row {
			row[j] = cross(pivotRow[c], row[j], factor, pivotRow[j], e.den)
		}
	}
	e.den = pivotRow[c]
}

// basic returns the basic solution, if the right side is the column n.
func (e *echelon) basic(n int) []api.Rat {
	x := zeros(n)
	for i, c := range e.pivots {
		x[c] = fraction(e.rows[i][n], e.den)
	}
	return x
}

// kernel returns the kernel basis of the first n columns.
func (e *echelon) kernel(n int) [][]api.Rat {
	var basis [][]api.Rat
	for free := range n {
		if slices.Contains(e.pivots, free) {
			continue
		}
		x := zeros(n)
		x[free] = Whole(1)
		for i, c := range e.pivots {
			x[c] = fraction(opposite(e.rows[i][free]), e.den)
		}
		basis = append(basis, x)
	}
	return basis
}
