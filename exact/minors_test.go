package exact_test

import (
	"math/big"
	"slices"
	"testing"

	"putlog/api"
	"putlog/exact"
)

// determinant is the sum over all permutations, by the first row.
func determinant(m [][]api.Rat) *big.Rat {
	sum := new(big.Rat)
	if len(m) == 0 {
		return sum.SetInt64(1)
	}
	for j, x := range m[0] {
		if len(x.Num.Limbs) == 0 {
			continue
		}
		var rest [][]api.Rat
		for _, row := range m[1:] {
			rest = append(rest, slices.Concat(row[:j], row[j+1:]))
		}
		term := new(big.Rat).Mul(bigRat(x), determinant(rest))
		if j%2 == 1 {
			term.Neg(term)
		}
		sum.Add(sum, term)
	}
	return sum
}

// rightMinors are the leading minors by their definition.
func rightMinors(m [][]api.Rat) []api.Rat {
	out := []api.Rat{}
	for k := 1; k <= len(m); k++ {
		var part [][]api.Rat
		for _, row := range m[:k] {
			part = append(part, row[:k])
		}
		out = append(out, ratOf(determinant(part)))
	}
	return out
}

// P1.6: Minors, also where some of them are 0.
func TestMinors(t *testing.T) {
	d := dice()
	for i := range 1500 {
		n := 1 + i%6
		m := someMatrix(d, n, n, 1+i%3, 1+i%4)
		if n > 1 && i%5 == 0 {
			m[1] = copyList(m[0])
		}
		l, e := exact.Minors(m)
		want(t, "Minors", l, e, rightMinors(m), api.OK)
	}
	// Permutations: the sign, and minors that are 0 before the last one.
	for _, p := range [][]int{{1, 0}, {1, 2, 0}, {2, 1, 0}, {0, 2, 1}, {3, 0, 1, 2}, {1, 0, 3, 2}, {3, 2, 1, 0, 4}} {
		var m [][]api.Rat
		for _, c := range p {
			m = append(m, unit(len(p))[c])
		}
		l, e := exact.Minors(m)
		want(t, "Minors of a permutation", l, e, rightMinors(m), api.OK)
	}
}

// P1.6: Minors by hand, and by value.
func TestMinorsByHand(t *testing.T) {
	for _, x := range []struct {
		m    [][]api.Rat
		want []api.Rat
	}{
		{nil, nil},
		{rows([]int64{-7}), list(-7)},
		{rows([]int64{2, 1}, []int64{1, 2}), list(2, 3)},
		{rows([]int64{0, 1}, []int64{1, 0}), list(0, -1)},
		{rows([]int64{0, 0}, []int64{5, 1}), list(0, 0)},
		{rows([]int64{0, 0, 1}, []int64{0, 1, 0}, []int64{1, 0, 0}), list(0, 0, -1)},
		{[][]api.Rat{{{Num: limbs(false, 2, 0), Den: limbs(true, 4)}}}, []api.Rat{r(-1, 2)}},
		{[][]api.Rat{{r(1, 1), r(1, 2)}, {r(1, 2), r(1, 3)}}, []api.Rat{r(1, 1), r(1, 12)}},
	} {
		l, e := exact.Minors(x.m)
		want(t, "Minors", l, e, x.want, api.OK)
	}
}

// P1.6: 60 rows are not too many: the matrix of the lesser one of row and column has the minors 1.
func TestLargeMinors(t *testing.T) {
	m := repeated(60, 60)
	for i, row := range m {
		for j := range row {
			row[j] = exact.Whole(1 + min(i, j))
		}
	}
	l, e := exact.Minors(m)
	want(t, "Minors", l, e, repeated(1, 60)[0], api.OK)
	is, e := exact.Definite(m)
	want(t, "Definite", is, e, true, api.OK)
}

// P1.6: Definite.
func TestDefinite(t *testing.T) {
	for _, x := range []struct {
		m    [][]api.Rat
		want bool
	}{
		{nil, true},
		{[][]api.Rat{}, true},
		{rows([]int64{1}), true},
		{rows([]int64{0}), false},
		{rows([]int64{-1}), false},
		{rows([]int64{2, 1}, []int64{1, 2}), true},
		{rows([]int64{2, 1}, []int64{0, 2}), false},
		{rows([]int64{2, 0}, []int64{1, 2}), false},
		{rows([]int64{1, 1}, []int64{1, 1}), false},
		{rows([]int64{-2, 1}, []int64{1, -2}), false},
		{rows([]int64{1, 2}, []int64{2, 1}), false},
		{rows([]int64{2, 1, 0}, []int64{1, 2, 1}, []int64{0, 1, 2}), true},
		{rows([]int64{2, 1, 0}, []int64{1, 2, 1}, []int64{1, 1, 2}), false},
		{rows([]int64{2, 1, 0}, []int64{1, 2, 1}, []int64{0, 2, 2}), false},
		{[][]api.Rat{{r(2, 1), {Num: limbs(true, 1), Den: limbs(true, 2)}}, {{Num: limbs(false, 2), Den: limbs(false, 4)}, r(1, 1)}}, true},
	} {
		is, e := exact.Definite(x.m)
		want(t, "Definite", is, e, x.want, api.OK)
	}
	d := dice()
	for i := range 600 {
		n := 1 + i%4
		m := someMatrix(d, n, n, 3, 2)
		for j := range n {
			for k := range j {
				m[j][k] = m[k][j]
			}
			m[j][j] = r(int64(2+i%5), 1)
		}
		right := true
		for _, x := range rightMinors(m) {
			right = right && bigRat(x).Sign() > 0
		}
		is, e := exact.Definite(m)
		want(t, "Definite", is, e, right, api.OK)
	}
}

// P1.6: the errors, and their order.
func TestMinorErrors(t *testing.T) {
	for _, x := range []struct {
		m [][]api.Rat
		e api.Errno
	}{
		{rows([]int64{2, 1}), api.ErrShape},
		{rows([]int64{2}, []int64{1}), api.ErrShape},
		{[][]api.Rat{{}}, api.ErrShape},
		{[][]api.Rat{nil, nil}, api.ErrShape},
		{rows([]int64{1, 2}, []int64{2}), api.ErrShape},
		{repeated(61, 61), api.ErrLarge},
		{repeated(61, 2), api.ErrLarge},
		{repeated(2, 61), api.ErrLarge},
		{append(repeated(61, 61), list(1)), api.ErrShape},
	} {
		l, e := exact.Minors(x.m)
		want(t, "Minors", l, e, []api.Rat{}, x.e)
		is, e := exact.Definite(x.m)
		want(t, "Definite", is, e, false, x.e)
	}
}
