package exact

import (
	"slices"

	"putlog/api"
)

// Minors returns the leading minors of a square matrix.
func Minors(m [][]api.Rat) ([]api.Rat, api.Errno) {
	if e := squareError(m); e != api.OK {
		return nil, e
	}
	return leadingMinors(m), api.OK
}

// Definite reports whether a square matrix is symmetric with positive leading minors.
func Definite(m [][]api.Rat) (bool, api.Errno) {
	if e := squareError(m); e != api.OK {
		return false, e
	}
	notPositive := func(x api.Rat) bool { return signOfRat(x) <= 0 }
	return isSymmetric(m) && !slices.ContainsFunc(leadingMinors(m), notPositive), api.OK
}

func squareError(m [][]api.Rat) api.Errno {
	if e := matrixError(m); e != api.OK {
		return e
	}
	if len(m) != width(m) {
		return api.ErrShape
	}
	return api.OK
}

func isSymmetric(m [][]api.Rat) bool {
	for i, row := range m {
		for j := range i {
			if Cmp(row[j], m[j][i]) != 0 {
				return false
			}
		}
	}
	return true
}

// leadingMinors works row by row: the rows that went before, and they alone, are taken off a row, so
// that the determinants of the first rows stay as they are. The first element that is left in row i
// is then the determinant of the rows up to i in the columns of their first elements.
func leadingMinors(m [][]api.Rat) []api.Rat {
	minors := zeros(len(m))
	var rows [][]api.Int
	var firsts []int
	den := Of(1)
	turns := 0
	for k, row := range m {
		v := vectorOf(row)
		den = Prod(den, v.den)
		takeRowsOff(v.nums, rows, firsts)
		first := slices.IndexFunc(v.nums, func(x api.Int) bool { return !isZero(x) })
		if first < 0 {
			break // the rows depend on each other: this minor and all that follow are 0
		}
		turns += countAbove(firsts, first)
		rows, firsts = append(rows, v.nums), append(firsts, first)
		// If a first element lies beyond the first k+1 columns, its row is 0 in them.
		if slices.Max(firsts) == k {
			minors[k] = fraction(turned(v.nums[first], turns), den)
		}
	}
	return minors
}

// takeRowsOff clears, in row, the columns firsts of the first elements of the rows before it.
func takeRowsOff(row []api.Int, rows [][]api.Int, firsts []int) {
	den := Of(1)
	for i, c := range firsts {
		pivot, factor := rows[i][c], row[c]
		for j := range row {
			row[j] = cross(pivot, row[j], factor, rows[i][j], den)
		}
		den = pivot
	}
}

// countAbove returns how many elements of l are greater than n.
func countAbove(l []int, n int) int {
	count := 0
	for _, x := range l {
		if x > n {
			count++
		}
	}
	return count
}

// turned returns x, with the other sign if the number of turns is odd.
func turned(x api.Int, turns int) api.Int {
	if turns%2 == 1 {
		return opposite(x)
	}
	return x
}
