package exact_test

import (
	"math/big"
	"slices"
	"testing"

	"putlog/api"
	"putlog/exact"
)

// rightKernel is the kernel basis, from the definition of the echelon form.
func rightKernel(m [][]api.Rat) [][]api.Rat {
	form, pivots := echelon(m)
	basis := [][]api.Rat{}
	for free := 0; len(m) > 0 && free < len(m[0]); free++ {
		if slices.Contains(pivots, free) {
			continue
		}
		x := make([]api.Rat, len(m[0]))
		for j := range x {
			x[j] = r(0, 1)
		}
		x[free] = r(1, 1)
		for i, c := range pivots {
			x[c] = ratOf(new(big.Rat).Neg(form[i][free]))
		}
		basis = append(basis, x)
	}
	return basis
}

// rightSolution is the basic solution, or false if there is no solution.
func rightSolution(m [][]api.Rat, b []api.Rat) ([]api.Rat, bool) {
	if len(m) == 0 {
		return nil, true
	}
	var joined [][]api.Rat
	for i, row := range m {
		joined = append(joined, append(copyList(row), b[i]))
	}
	form, pivots := echelon(joined)
	n := len(m[0])
	if slices.Contains(pivots, n) {
		return nil, false
	}
	x := make([]api.Rat, n)
	for j := range x {
		x[j] = r(0, 1)
	}
	for i, c := range pivots {
		x[c] = ratOf(form[i][n])
	}
	return x, true
}

// isContradiction reports whether y m = 0 and y b = 1.
func isContradiction(m [][]api.Rat, b, y []api.Rat) bool {
	if len(y) != len(m) || bigDot(y, b).Cmp(big.NewRat(1, 1)) != 0 {
		return false
	}
	for j := range m[0] {
		if bigDot(turn(m)[j], y).Sign() != 0 {
			return false
		}
	}
	return true
}

// wantSolved checks Solve and CheckSolution against the definitions.
func wantSolved(t *testing.T, m [][]api.Rat, b []api.Rat) {
	t.Helper()
	s, e := exact.Solve(m, b)
	x, ok := rightSolution(m, b)
	if ok {
		want(t, "Solve", s, e, api.Solution{X: x, Kernel: rightKernel(m)}, api.OK)
	} else if e != api.OK || s.Kind != 1 || len(s.X)+len(s.Kernel) > 0 || !isContradiction(m, b, s.Proof) || !same(s.Proof, normals(s.Proof)) {
		t.Errorf("Solve(%v, %v): %v, error %d; want a contradiction", m, b, s, e)
	}
	want(t, "CheckSolution", 0, exact.CheckSolution(m, b, s), 0, api.OK)
}

// normals are the normal forms of a list.
func normals(l []api.Rat) []api.Rat {
	out := []api.Rat{}
	for _, x := range l {
		out = append(out, ratOf(bigRat(x)))
	}
	return out
}

// P1.5: Rank, Kernel and Solve, of matrices of all shapes.
func TestSystems(t *testing.T) {
	d := dice()
	for i := range 1500 {
		n, k := 1+d.Intn(6), d.Intn(7)
		m := someMatrix(d, n, k, 1+i%4, 1+i%3)
		if n > 2 && i%3 == 0 { // rows that depend on each other
			for j := range m[2] {
				m[2][j] = exact.Sub(m[0][j], exact.Mul(r(2, 3), m[1][j]))
			}
		}
		_, pivots := echelon(m)
		rank, e := exact.Rank(m)
		want(t, "Rank", rank, e, len(pivots), api.OK)
		basis, e := exact.Kernel(m)
		want(t, "Kernel", basis, e, rightKernel(m), api.OK)
		b := someList(d, n, 3, 2)
		if n > 2 && i%6 == 0 {
			b[2] = exact.Sub(b[0], exact.Mul(r(2, 3), b[1]))
		}
		wantSolved(t, m, b)
	}
}

// P1.5: small systems by hand.
func TestSystemsByHand(t *testing.T) {
	basis, e := exact.Kernel(rows([]int64{1, 2, 3}))
	want(t, "Kernel", basis, e, rows([]int64{-2, 1, 0}, []int64{-3, 0, 1}), api.OK)
	basis, e = exact.Kernel(rows([]int64{0, 0, 0}))
	want(t, "Kernel of 0", basis, e, unit(3), api.OK)
	basis, e = exact.Kernel(rows([]int64{0, 2, 0, 1}, []int64{0, 0, 0, 3}))
	want(t, "Kernel with free columns first", basis, e, rows([]int64{1, 0, 0, 0}, []int64{0, 0, 1, 0}), api.OK)
	m := rows([]int64{1, 2}, []int64{2, 4})
	s, e := exact.Solve(m, list(3, 6))
	want(t, "Solve", s, e, api.Solution{X: list(3, 0), Kernel: rows([]int64{-2, 1})}, api.OK)
	s, e = exact.Solve(m, list(3, 7))
	want(t, "Solve of a contradiction", s, e, api.Solution{Kind: 1, Proof: list(-2, 1)}, api.OK)
	s, e = exact.Solve(rows([]int64{0, 1}, []int64{1, 0}), list(5, 7))
	want(t, "Solve of exchanged rows", s, e, api.Solution{X: list(7, 5)}, api.OK)
	half := [][]api.Rat{{{Num: limbs(false, 2), Den: limbs(true, 4)}, {}}}
	s, e = exact.Solve(half, []api.Rat{{Num: limbs(false, 3, 0)}})
	want(t, "Solve by value", s, e, api.Solution{X: list(-6, 0), Kernel: rows([]int64{0, 1})}, api.OK)
}

// P1.5 and "More exactly": matrices without rows, or with empty rows.
func TestEmptySystems(t *testing.T) {
	for _, m := range [][][]api.Rat{nil, {}} {
		rank, e := exact.Rank(m)
		want(t, "Rank", rank, e, 0, api.OK)
		basis, e := exact.Kernel(m)
		want(t, "Kernel", basis, e, [][]api.Rat{}, api.OK)
		s, e := exact.Solve(m, nil)
		want(t, "Solve", s, e, api.Solution{}, api.OK)
		want(t, "CheckSolution", 0, exact.CheckSolution(m, nil, s), 0, api.OK)
		want(t, "CheckSolution of more", 0, exact.CheckSolution(m, nil, api.Solution{X: list(0)}), 0, api.ErrProof)
		want(t, "CheckSolution of a basis", 0, exact.CheckSolution(m, nil, api.Solution{Kernel: rows([]int64{})}), 0, api.ErrProof)
		want(t, "CheckSolution of a proof", 0, exact.CheckSolution(m, nil, api.Solution{Kind: 1}), 0, api.ErrProof)
	}
	m := [][]api.Rat{{}, nil, {}}
	rank, e := exact.Rank(m)
	want(t, "Rank of empty rows", rank, e, 0, api.OK)
	basis, e := exact.Kernel(m)
	want(t, "Kernel of empty rows", basis, e, [][]api.Rat{}, api.OK)
	s, e := exact.Solve(m, list(0, 0, 0))
	want(t, "Solve of empty rows", s, e, api.Solution{}, api.OK)
	want(t, "CheckSolution", 0, exact.CheckSolution(m, list(0, 0, 0), s), 0, api.OK)
	wantSolved(t, m, list(0, -3, 2))
	want(t, "CheckSolution of no solution", 0, exact.CheckSolution(m, list(0, -3, 2), api.Solution{}), 0, api.ErrProof)
}

// P1.5: what CheckSolution accepts and refuses of a system with solutions.
func TestCheckSolution(t *testing.T) {
	m := rows([]int64{1, 2, 0, 1}, []int64{2, 4, 0, 3})
	b := list(3, 7)
	x, kernel := list(2, 0, 0, 1), rows([]int64{-2, 1, 0, 0}, []int64{0, 0, 1, 0})
	for _, s := range []api.Solution{
		{X: x, Kernel: kernel},
		{X: x, Kernel: kernel, Proof: []api.Rat{}},
		{X: []api.Rat{{Num: limbs(true, 4, 0), Den: limbs(true, 2)}, {}, {Num: limbs(true)}, r(1, 1)}, Kernel: [][]api.Rat{{{Num: limbs(true, 2)}, {Num: limbs(false, 7), Den: limbs(false, 7)}, {}, {}}, kernel[1]}},
	} {
		want(t, "CheckSolution", 0, exact.CheckSolution(m, b, s), 0, api.OK)
	}
	for _, s := range []api.Solution{
		{},
		{Kind: -1, X: x, Kernel: kernel},
		{Kind: 2, X: x, Kernel: kernel},
		{Kind: 1, X: x, Kernel: kernel},
		{Kind: 1, Proof: list(-2, 1)},
		{Kind: 1},
		{X: x, Kernel: kernel, Proof: list(0)},
		{X: x},
		{X: x, Kernel: kernel[:1]},
		{X: x, Kernel: kernel[1:]},
		{X: x, Kernel: [][]api.Rat{kernel[1], kernel[0]}},
		{X: x, Kernel: append(copyRows(kernel), list(0, 0, 0, 0))},
		{X: x, Kernel: rows([]int64{-4, 2, 0, 0}, []int64{0, 0, 1, 0})},
		{X: x, Kernel: rows([]int64{-2, 1, 1, 0}, []int64{0, 0, 1, 0})},
		{X: x, Kernel: rows([]int64{-2, 1, 0, 0}, []int64{0, 0, 1})},
		{X: x, Kernel: rows([]int64{-2, 1, 0, 0}, []int64{0, 0, 1, 0, 0})},
		{X: x, Kernel: [][]api.Rat{kernel[0], nil}},
		{X: list(0, 1, 0, 1), Kernel: kernel},
		{X: list(2, 0, 1, 1), Kernel: kernel},
		{X: list(2, 0, 0, 2), Kernel: kernel},
		{X: list(2, 0, 0), Kernel: kernel},
		{X: list(2, 0, 0, 1, 0), Kernel: kernel},
		{Kernel: kernel},
	} {
		want(t, "CheckSolution", s, exact.CheckSolution(m, b, s), s, api.ErrProof)
	}
}

// P1.5: what CheckSolution accepts and refuses of a system without solutions.
func TestCheckContradiction(t *testing.T) {
	m := rows([]int64{1, 2}, []int64{2, 4}, []int64{1, 2})
	b := list(3, 7, 4)
	for _, y := range [][]api.Rat{list(-2, 1, 0), list(-1, 0, 1), list(0, -1, 2), {r(-3, 2), r(1, 2), r(1, 2)}, {{Num: limbs(true, 2)}, {Num: limbs(true, 3), Den: limbs(true, 3)}, {}}} {
		want(t, "CheckSolution", 0, exact.CheckSolution(m, b, api.Solution{Kind: 1, Proof: y}), 0, api.OK)
	}
	y := list(-2, 1, 0)
	for _, s := range []api.Solution{
		{},
		{X: list(3, 0), Kernel: rows([]int64{-2, 1})},
		{Kernel: rows([]int64{-2, 1})},
		{Proof: y},
		{Kind: 2, Proof: y},
		{Kind: 1},
		{Kind: 1, Proof: list(2, -1, 0)},
		{Kind: 1, Proof: list(-4, 2, 0)},
		{Kind: 1, Proof: list(0, 0, 0)},
		{Kind: 1, Proof: list(1, 0, 0)},
		{Kind: 1, Proof: []api.Rat{r(1, 3), r(0, 1), r(0, 1)}},
		{Kind: 1, Proof: list(-2, 1)},
		{Kind: 1, Proof: list(-2, 1, 0, 0)},
		{Kind: 1, Proof: y, X: list(0)},
		{Kind: 1, Proof: y, Kernel: rows([]int64{-2, 1})},
		{Kind: 1, Proof: y, Kernel: [][]api.Rat{nil}},
	} {
		want(t, "CheckSolution", s, exact.CheckSolution(m, b, s), s, api.ErrProof)
	}
	// y m must be 0 in every column, the last one too.
	m = rows([]int64{1, 0}, []int64{1, 1})
	want(t, "CheckSolution", 0, exact.CheckSolution(m, list(0, 1), api.Solution{Kind: 1, Proof: list(-1, 1)}), 0, api.ErrProof)
}

// P1.5: the errors, and their order.
func TestSystemErrors(t *testing.T) {
	ragged := rows([]int64{1, 2}, []int64{2})
	raggedLarge := append(repeated(61, 1), list(1, 1))
	for _, x := range []struct {
		m [][]api.Rat
		b []api.Rat
		e api.Errno
		f api.Errno
	}{
		{ragged, list(1, 2), api.ErrShape, api.ErrShape},
		{[][]api.Rat{nil, list(1)}, list(1, 2), api.ErrShape, api.ErrShape},
		{raggedLarge, nil, api.ErrShape, api.ErrShape},
		{repeated(61, 1), list(1), api.ErrLarge, api.ErrLarge},
		{make([][]api.Rat, 61), nil, api.ErrLarge, api.ErrLarge},
		{repeated(1, 61), list(1, 2), api.ErrLarge, api.ErrLarge},
		{rows([]int64{1}), list(1, 2), api.OK, api.ErrShape},
		{rows([]int64{1}), nil, api.OK, api.ErrShape},
		{nil, list(1), api.OK, api.ErrShape},
	} {
		if x.e != api.OK {
			rank, e := exact.Rank(x.m)
			want(t, "Rank", rank, e, 0, x.e)
			basis, e := exact.Kernel(x.m)
			want(t, "Kernel", basis, e, [][]api.Rat{}, x.e)
		}
		s, e := exact.Solve(x.m, x.b)
		want(t, "Solve", s, e, api.Solution{}, x.f)
		want(t, "CheckSolution", 0, exact.CheckSolution(x.m, x.b, api.Solution{}), 0, x.f)
		want(t, "CheckSolution of no kind", 0, exact.CheckSolution(x.m, x.b, api.Solution{Kind: 9}), 0, x.f)
	}
}

// P1.5: 60 rows and 60 columns are not too many.
func TestLargeSystems(t *testing.T) {
	d := dice()
	m := someMatrix(d, 60, 60, 1000, 1)
	rank, e := exact.Rank(m)
	want(t, "Rank", rank, e, 60, api.OK)
	s, e := exact.Solve(m, someList(d, 60, 1000, 1))
	want(t, "Solve", []int{s.Kind, len(s.X), len(s.Kernel)}, e, []int{0, 60, 0}, api.OK)
	rank, e = exact.Rank(repeated(60, 60))
	want(t, "Rank of equal rows", rank, e, 1, api.OK)
	basis, e := exact.Kernel(repeated(60, 60))
	want(t, "Kernel of equal rows", len(basis), e, 59, api.OK)
	wide := someMatrix(d, 12, 60, 9, 2)
	wantSolved(t, wide, someList(d, 12, 9, 2))
	wantSolved(t, turn(wide), someList(d, 60, 9, 2))
}
