package exact_test

import (
	"math/big"
	"testing"

	"putlog/api"
	"putlog/exact"
)

// P1.8: integers are a commutative ring.
func TestRing(t *testing.T) {
	d := dice()
	for i := range 1000 {
		x, y, z := someInt(d, 1+i%6), someInt(d, 4), someInt(d, 3)
		want(t, "x + y", exact.Sum(x, y), 0, exact.Sum(y, x), 0)
		want(t, "(x + y) + z", exact.Sum(exact.Sum(x, y), z), 0, exact.Sum(x, exact.Sum(y, z)), 0)
		want(t, "(x - y) + y", exact.Sum(exact.Diff(x, y), y), 0, exact.Sum(x, exact.Of(0)), 0)
		want(t, "x - x", exact.Diff(x, x), 0, exact.Of(0), 0)
		want(t, "x y", exact.Prod(x, y), 0, exact.Prod(y, x), 0)
		want(t, "(x y) z", exact.Prod(exact.Prod(x, y), z), 0, exact.Prod(x, exact.Prod(y, z)), 0)
		want(t, "x (y + z)", exact.Prod(x, exact.Sum(y, z)), 0, exact.Sum(exact.Prod(x, y), exact.Prod(x, z)), 0)
		want(t, "x 1", exact.Prod(x, exact.Of(1)), 0, exact.Diff(x, exact.Of(0)), 0)
		want(t, "the order of sums", exact.CmpInt(exact.Sum(x, z), exact.Sum(y, z)), 0, exact.CmpInt(x, y), 0)
	}
}

// P1.8: fractions are a field, and what is written is read back.
func TestField(t *testing.T) {
	d := dice()
	for i := range 1000 {
		x, y, z := someRat(d, 1+i%4), someRat(d, 3), someRat(d, 2)
		want(t, "x + y", exact.Add(x, y), 0, exact.Add(y, x), 0)
		want(t, "(x + y) + z", exact.Add(exact.Add(x, y), z), 0, exact.Add(x, exact.Add(y, z)), 0)
		want(t, "(x - y) + y", exact.Add(exact.Sub(x, y), y), 0, exact.Normal(x), 0)
		want(t, "x y", exact.Mul(x, y), 0, exact.Mul(y, x), 0)
		want(t, "(x y) z", exact.Mul(exact.Mul(x, y), z), 0, exact.Mul(x, exact.Mul(y, z)), 0)
		want(t, "x (y + z)", exact.Mul(x, exact.Add(y, z)), 0, exact.Add(exact.Mul(x, y), exact.Mul(x, z)), 0)
		want(t, "the order of sums", exact.Cmp(exact.Add(x, z), exact.Add(y, z)), 0, exact.Cmp(x, y), 0)
		if q, e := exact.Quo(x, y); e == api.OK {
			want(t, "(x/y) y", exact.Mul(q, y), 0, exact.Normal(x), 0)
		}
		if text := exact.Format(x); len(text) <= 800 {
			back, e := exact.Parse(text)
			want(t, "read back", back, e, exact.Normal(x), api.OK)
		}
	}
}

// P1.9: a system has a solution or a contradiction, never both; rank and kernel add up; all solutions
// are the basic one and combinations of the kernel basis.
func TestFredholm(t *testing.T) {
	d := dice()
	for i := range 600 {
		n, k := 1+d.Intn(5), 1+d.Intn(5)
		m, b := someMatrix(d, n, k, 1+i%2, 2), someList(d, n, 2, 2)
		rank, _ := exact.Rank(m)
		basis, _ := exact.Kernel(m)
		want(t, "rank and kernel", rank+len(basis), 0, k, 0)
		joined := [][]api.Rat{}
		for j, row := range m {
			joined = append(joined, append(copyList(row), b[j]))
		}
		more, _ := exact.Rank(joined)
		s, _ := exact.Solve(m, b)
		want(t, "a solution just if b adds no rank", s.Kind, 0, more-rank, 0)
		if s.Kind != 0 {
			continue
		}
		x := someCombination(d, s)
		for j, row := range m {
			if bigDot(row, x).Cmp(bigRat(b[j])) != 0 {
				t.Errorf("%v is no solution of %v x = %v", texts(x), m, b)
			}
		}
		// Its elements at the free columns are the factors by which the basis makes it.
		other := copyList(s.X)
		for _, v := range s.Kernel {
			free := len(v) - 1
			for len(v[free].Num.Limbs) == 0 {
				free--
			}
			f := x[free]
			for j := range other {
				other[j] = exact.Add(other[j], exact.Mul(f, v[j]))
			}
		}
		want(t, "the same solution", other, 0, x, 0)
	}
}

// someCombination is a solution.
func someCombination(d interface{ Intn(int) int }, s api.Solution) []api.Rat {
	x := copyList(s.X)
	for _, v := range s.Kernel {
		f := r(int64(d.Intn(7)-3), int64(1+d.Intn(3)))
		for j := range x {
			x[j] = exact.Add(x[j], exact.Mul(f, v[j]))
		}
	}
	return x
}

// P1.10: a definite matrix m has x m x > 0, and its minors are at most the products of the diagonal.
func TestDefiniteForms(t *testing.T) {
	d := dice()
	found := 0
	for i := range 400 {
		n := 1 + i%4
		half := someMatrix(d, n, n, 3, 2)
		m := make([][]api.Rat, n) // half times its transposed matrix
		for j := range m {
			for k := range n {
				m[j] = append(m[j], ratOf(bigDot(half[j], half[k])))
			}
		}
		is, _ := exact.Definite(m)
		rank, _ := exact.Rank(half)
		want(t, "definite just if of full rank", is, 0, rank == n, 0)
		if !is {
			continue
		}
		found++
		x := someList(d, n, 3, 2)
		x[0] = r(1, 3)
		form := new(big.Rat)
		for j, row := range m {
			form.Add(form, new(big.Rat).Mul(bigRat(x[j]), bigDot(row, x)))
		}
		if form.Sign() <= 0 {
			t.Errorf("x m x is %v", form)
		}
		minors, _ := exact.Minors(m)
		product := r(1, 1)
		for k, minor := range minors {
			product = exact.Mul(product, m[k][k])
			if exact.Cmp(product, minor) < 0 {
				t.Errorf("the minor %d is greater than the product of the diagonal", k)
			}
		}
	}
	if found < 50 {
		t.Errorf("only %d definite matrices", found)
	}
}

// dualOf is the dual program of one with rows and columns.
func dualOf(p api.Program) api.Program {
	minus := func(l []api.Rat) []api.Rat {
		out := []api.Rat{}
		for _, x := range l {
			out = append(out, ratOf(new(big.Rat).Neg(bigRat(x))))
		}
		return out
	}
	out := api.Program{B: minus(p.C), C: minus(p.B)}
	for _, row := range turn(p.A) {
		out.A = append(out.A, minus(row))
	}
	return out
}

// P1.11: a program has one kind and one value, and its dual the value with the other sign.
func TestDuality(t *testing.T) {
	d := dice()
	for range 1500 {
		p := someProgram(d, 1+d.Intn(5), 1+d.Intn(5))
		o, dual := wantOptimum(t, p), wantOptimum(t, dualOf(p))
		switch o.Kind {
		case 0:
			want(t, "dual", []any{dual.Kind, dual.Value}, 0, []any{0, exact.Sub(r(0, 1), o.Value)}, 0)
		case 1:
			if dual.Kind == 0 {
				t.Errorf("an impossible program with an optimum of its dual: %v", p)
			}
		case 2:
			want(t, "dual", dual.Kind, 0, 1, 0)
		}
		// Rows in another order leave the kind and the value.
		for i := range len(p.A) / 2 {
			j := len(p.A) - 1 - i
			p.A[i], p.A[j], p.B[i], p.B[j] = p.A[j], p.A[i], p.B[j], p.B[i]
		}
		again := wantOptimum(t, p)
		want(t, "again", []any{again.Kind, again.Value}, 0, []any{o.Kind, o.Value}, 0)
	}
}

// P1.11: C X is at most Y B for all that are possible.
func TestWeakDuality(t *testing.T) {
	d := dice()
	for range 400 {
		p := someProgram(d, 1+d.Intn(4), 1+d.Intn(4))
		free, asDual := p, dualOf(p)
		free.C = make([]api.Rat, len(p.C))
		asDual.C = make([]api.Rat, len(p.B))
		x, y := wantOptimum(t, free), wantOptimum(t, asDual)
		if x.Kind == 0 && y.Kind == 0 && bigDot(p.C, x.X).Cmp(bigDot(y.X, p.B)) > 0 {
			t.Errorf("C X is greater than Y B: %v, %v of %v", texts(x.X), texts(y.X), p)
		}
	}
}
