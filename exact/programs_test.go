package exact_test

import (
	"math/big"
	"testing"

	"putlog/api"
	"putlog/exact"
)

// noneBelow reports whether l has n elements, none of which is less than that of limits.
func noneBelow(l []api.Rat, n int, limits func(int) *big.Rat) bool {
	if len(l) != n {
		return false
	}
	for i, x := range l {
		if bigRat(x).Cmp(limits(i)) < 0 {
			return false
		}
	}
	return true
}

func zero(int) *big.Rat { return new(big.Rat) }

// isPossible reports whether x >= 0 and A x <= b.
func isPossible(p api.Program, x, b []api.Rat) bool {
	if !noneBelow(x, len(p.C), zero) {
		return false
	}
	for i, row := range p.A {
		if bigDot(row, x).Cmp(bigRat(b[i])) > 0 {
			return false
		}
	}
	return true
}

// isDual reports whether y >= 0 and y A >= c.
func isDual(p api.Program, y, c []api.Rat) bool {
	if !noneBelow(y, len(p.B), zero) {
		return false
	}
	for j := range p.C {
		sum := new(big.Rat)
		for i, row := range p.A {
			sum.Add(sum, new(big.Rat).Mul(bigRat(y[i]), bigRat(row[j])))
		}
		if sum.Cmp(bigRat(c[j])) < 0 {
			return false
		}
	}
	return true
}

// isCertificate is the definition of a certificate.
func isCertificate(p api.Program, o api.Optimum) bool {
	noB, noC := make([]api.Rat, len(p.B)), make([]api.Rat, len(p.C))
	value := bigRat(o.Value)
	switch o.Kind {
	case 0:
		return len(o.Ray) == 0 && isPossible(p, o.X, p.B) && isDual(p, o.Y, p.C) &&
			bigDot(p.C, o.X).Cmp(value) == 0 && bigDot(o.Y, p.B).Cmp(value) == 0
	case 1:
		return len(o.X)+len(o.Ray) == 0 && value.Sign() == 0 && isDual(p, o.Y, noC) && bigDot(o.Y, p.B).Sign() < 0
	case 2:
		return len(o.Y) == 0 && value.Sign() == 0 && isPossible(p, o.X, p.B) && isPossible(p, o.Ray, noB) && bigDot(p.C, o.Ray).Sign() > 0
	}
	return false
}

// wantOptimum checks Optimize and CheckOptimum against the definition, and returns the certificate.
func wantOptimum(t *testing.T, p api.Program) api.Optimum {
	t.Helper()
	o, e := exact.Optimize(p)
	if e != api.OK || !isCertificate(p, o) {
		t.Errorf("Optimize(%v): %v, error %d: no certificate", p, o, e)
	}
	for _, l := range [][]api.Rat{o.X, o.Y, o.Ray} {
		want(t, "Optimize in normal form", l, 0, normals(l), 0)
	}
	want(t, "CheckOptimum", 0, exact.CheckOptimum(p, o), 0, api.OK)
	return o
}

// someProgram is a small program.
func someProgram(d interface{ Intn(int) int }, n, m int) api.Program {
	pick := func(k int) []api.Rat {
		out := []api.Rat{}
		for range k {
			a := int64(d.Intn(9) - 4)
			if d.Intn(4) == 0 {
				a = 0
			}
			out = append(out, r(a, int64(1+d.Intn(3))))
		}
		return out
	}
	p := api.Program{B: pick(m), C: pick(n)}
	for range m {
		p.A = append(p.A, pick(n))
	}
	return p
}

// P1.7: Optimize returns a certificate, for programs of all kinds.
func TestOptimize(t *testing.T) {
	d := dice()
	var kinds [3]int
	for i := range 4000 {
		p := someProgram(d, i%7, d.Intn(7))
		if i%3 == 0 {
			for j := range p.B { // degenerate corners
				p.B[j] = r(int64(d.Intn(2)), 1)
			}
		}
		kinds[wantOptimum(t, p).Kind]++
	}
	for kind, n := range kinds {
		if n < 100 {
			t.Errorf("kind %d came %d times only", kind, n)
		}
	}
}

// P1.7: programs by hand.
func TestOptimizeByHand(t *testing.T) {
	for _, x := range []struct {
		p    api.Program
		kind int
		want api.Rat
	}{
		{api.Program{A: rows([]int64{1, 1}, []int64{1, 0}), B: list(4, 3), C: list(3, 2)}, 0, r(11, 1)},
		{api.Program{A: rows([]int64{-1}), B: list(-2), C: list(1)}, 2, r(0, 1)},
		{api.Program{A: rows([]int64{-1}), B: list(-2), C: list(-1)}, 0, r(-2, 1)},
		{api.Program{A: rows([]int64{1}), B: list(-1), C: list(1)}, 1, r(0, 1)},
		{api.Program{}, 0, r(0, 1)},
		{api.Program{C: list(-1, 0)}, 0, r(0, 1)},
		{api.Program{C: list(-1, 2)}, 2, r(0, 1)},
		{api.Program{A: [][]api.Rat{{}}, B: list(-1)}, 1, r(0, 1)},
		{api.Program{A: [][]api.Rat{{}, nil}, B: list(0, 2)}, 0, r(0, 1)},
		{api.Program{A: rows([]int64{0}), B: list(0), C: list(0)}, 0, r(0, 1)},
		{api.Program{A: rows([]int64{0}), B: list(-1), C: list(1)}, 1, r(0, 1)},
		{api.Program{A: rows([]int64{0}), B: list(0), C: list(1)}, 2, r(0, 1)},
		{api.Program{A: rows([]int64{-1, -1}, []int64{1, 2}), B: list(-2, 6), C: list(-3, -4)}, 0, r(-6, 1)},
		{api.Program{A: rows([]int64{3, 2}, []int64{1, 4}), B: list(6, 4), C: list(1, 1)}, 0, r(11, 5)},
		// An equation, once written twice, and a contradiction of equations.
		{api.Program{A: rows([]int64{1, 1}, []int64{-1, -1}, []int64{2, 2}, []int64{-2, -2}), B: list(3, -3, 6, -6), C: list(2, 1)}, 0, r(6, 1)},
		{api.Program{A: rows([]int64{1, 1}, []int64{-1, -1}, []int64{2, 2}, []int64{-2, -2}), B: list(3, -3, 7, -7), C: list(2, 1)}, 1, r(0, 1)},
		// Beale's program, in which the largest gain goes round in a circle.
		{api.Program{
			A: [][]api.Rat{{r(1, 4), r(-60, 1), r(-1, 25), r(9, 1)}, {r(1, 2), r(-90, 1), r(-1, 50), r(3, 1)}, list(0, 0, 1, 0)},
			B: list(0, 0, 1), C: []api.Rat{r(3, 4), r(-150, 1), r(1, 50), r(-6, 1)},
		}, 0, r(1, 20)},
		// Chvatal's, which does too.
		{api.Program{
			A: [][]api.Rat{{r(1, 2), r(-11, 2), r(-5, 2), r(9, 1)}, {r(1, 2), r(-3, 2), r(-1, 2), r(1, 1)}, list(1, 0, 0, 0)},
			B: list(0, 0, 1), C: list(10, -57, -9, -24),
		}, 0, r(1, 1)},
		// Two in which it does so in whole numbers, without a bound and with one.
		{api.Program{
			A: rows([]int64{-1, 0, -6, 8, -53, 0}, []int64{38, -30, 0, 1, 23, 94}, []int64{12, 99, 0, 27, 5, 38}),
			B: list(0, 0, 0), C: list(1, 3, 50, 67, -51, -84),
		}, 2, r(0, 1)},
		{api.Program{
			A: rows([]int64{-1, 0, -6, 8, -53, 0}, []int64{38, -30, 0, 1, 23, 94}, []int64{12, 99, 0, 27, 5, 38}, []int64{0, 0, 1, 0, 0, 0}),
			B: list(0, 0, 0, 1), C: list(1, 3, 50, 67, -51, -84),
		}, 0, r(50, 1)},
		// Not in normal form: -2/-4 x <= 6/3.
		{api.Program{A: [][]api.Rat{{{Num: limbs(true, 2), Den: limbs(true, 4)}}}, B: []api.Rat{{Num: limbs(false, 6, 0), Den: limbs(false, 3)}}, C: []api.Rat{{Num: limbs(true, 5), Den: limbs(true, 10, 0)}}}, 0, r(2, 1)},
	} {
		o := wantOptimum(t, x.p)
		want(t, "Kind and Value", []any{o.Kind, o.Value}, 0, []any{x.kind, x.want}, 0)
	}
}

// P1.7: 60 rows and 60 columns are not too many.
func TestLargePrograms(t *testing.T) {
	d := dice()
	p := api.Program{A: someMatrix(d, 60, 60, 9, 1), C: someList(d, 60, 9, 1)}
	for range 60 {
		p.B = append(p.B, r(int64(d.Intn(50)), 1))
	}
	wantOptimum(t, p)
	for _, row := range p.A {
		for j, x := range row {
			row[j] = ratOf(new(big.Rat).Abs(bigRat(x)))
		}
	}
	for i := range p.B { // to be covered: -A x <= -B, with the least sum
		p.B[i], p.C[i] = exact.Whole(-1-i), exact.Whole(-1)
		for j := range p.A[i] {
			p.A[i][j] = exact.Sub(r(0, 1), p.A[i][j])
		}
	}
	wantOptimum(t, p)
	o := wantOptimum(t, api.Program{A: unit(60), B: repeated(1, 60)[0], C: repeated(1, 60)[0]})
	want(t, "Value", o.Value, 0, r(60, 1), 0)
	o = wantOptimum(t, api.Program{C: repeated(1, 60)[0]})
	want(t, "Kind without rows", o.Kind, 0, 2, 0)
}

// P1.7: the errors, and their order.
func TestProgramErrors(t *testing.T) {
	for _, x := range []struct {
		p api.Program
		e api.Errno
	}{
		{api.Program{A: rows([]int64{1, 2}, []int64{1}), B: list(1, 1), C: list(1, 1)}, api.ErrShape},
		{api.Program{A: append(repeated(61, 1), list(1, 1))}, api.ErrShape},
		{api.Program{A: repeated(61, 1), B: list(1), C: list(1)}, api.ErrLarge},
		{api.Program{A: repeated(1, 61), B: list(1, 2), C: list(1)}, api.ErrLarge},
		{api.Program{A: make([][]api.Rat, 61)}, api.ErrLarge},
		{api.Program{A: rows([]int64{1}), C: list(1)}, api.ErrShape},
		{api.Program{A: rows([]int64{1}), B: list(1, 2), C: list(1)}, api.ErrShape},
		{api.Program{B: list(1), C: list(1)}, api.ErrShape},
		{api.Program{A: rows([]int64{1, 2}), B: list(1), C: list(1)}, api.ErrShape},
		{api.Program{A: rows([]int64{1, 2}), B: list(1)}, api.ErrShape},
		{api.Program{A: [][]api.Rat{{}}, B: list(1), C: list(1)}, api.ErrShape},
		{api.Program{A: rows([]int64{1, 2}), B: list(1), C: make([]api.Rat, 61)}, api.ErrShape},
		{api.Program{B: list(1), C: make([]api.Rat, 61)}, api.ErrShape},
		{api.Program{C: make([]api.Rat, 61)}, api.ErrLarge},
	} {
		o, e := exact.Optimize(x.p)
		want(t, "Optimize", o, e, api.Optimum{}, x.e)
		want(t, "CheckOptimum", 0, exact.CheckOptimum(x.p, api.Optimum{}), 0, x.e)
		want(t, "CheckOptimum of no kind", 0, exact.CheckOptimum(x.p, api.Optimum{Kind: 7}), 0, x.e)
	}
}

// P1.7: what CheckOptimum accepts and refuses of a program with an optimum.
func TestCheckOptimumBest(t *testing.T) {
	p := api.Program{A: rows([]int64{1, 1}, []int64{1, 0}), B: list(4, 3), C: list(3, 2)}
	x, y, v := list(3, 1), list(2, 1), r(11, 1)
	for _, o := range []api.Optimum{
		{X: x, Y: y, Value: v},
		{X: x, Y: y, Ray: []api.Rat{}, Value: v},
		{X: []api.Rat{{Num: limbs(true, 6), Den: limbs(true, 2)}, {Num: limbs(false, 1, 0)}}, Y: y, Value: api.Rat{Num: limbs(false, 22), Den: limbs(false, 2)}},
	} {
		want(t, "CheckOptimum", o, exact.CheckOptimum(p, o), o, api.OK)
	}
	for _, o := range []api.Optimum{
		{},
		{Kind: -1, X: x, Y: y, Value: v},
		{Kind: 1, X: x, Y: y, Value: v},
		{Kind: 2, X: x, Y: y, Value: v},
		{Kind: 3, X: x, Y: y, Value: v},
		{Kind: 1, Y: y},
		{Kind: 2, X: x, Ray: list(1, 0)},
		{X: x, Y: y, Value: r(12, 1)},
		{X: x, Y: y},
		{X: x, Y: y, Ray: list(0, 0), Value: v},
		{X: x, Y: y, Ray: list(0), Value: v},
		{X: x, Value: v},
		{Y: y, Value: v},
		{X: list(3), Y: y, Value: v},
		{X: list(3, 1, 0), Y: y, Value: v},
		{X: x, Y: list(2), Value: v},
		{X: x, Y: list(2, 1, 0), Value: v},
		{X: list(2, 2), Y: y, Value: v},
		{X: list(2, 2), Y: y, Value: r(10, 1)},
		{X: x, Y: list(3, 0), Value: v},
		{X: x, Y: list(3, 0), Value: r(12, 1)},
		{X: []api.Rat{r(11, 3), r(0, 1)}, Y: y, Value: v}, // beyond the second row
		{X: list(1, 4), Y: y, Value: v},                   // beyond the first one
		{X: list(5, -2), Y: y, Value: v},                  // beyond the second row, and negative
		{X: x, Y: []api.Rat{r(11, 4), r(0, 1)}, Value: v}, // y A too small in the first column
		{X: x, Y: []api.Rat{r(5, 4), r(2, 1)}, Value: v},  // y A too small in the second one
		{X: x, Y: list(5, -3), Value: v},                  // negative
	} {
		want(t, "CheckOptimum", o, exact.CheckOptimum(p, o), o, api.ErrProof)
	}
}

// P1.7: of several certificates each one is accepted; X and Y may not be negative, even where nothing else forbids it.
func TestCheckOptimumAny(t *testing.T) {
	p := api.Program{A: rows([]int64{1, 1}, []int64{2, 2}), B: list(1, 2), C: list(1, 1)}
	v := r(1, 1)
	for _, x := range [][]api.Rat{list(1, 0), list(0, 1), {r(1, 3), r(2, 3)}} {
		for _, y := range [][]api.Rat{list(1, 0), {r(0, 1), r(1, 2)}, {r(1, 2), r(1, 4)}} {
			o := api.Optimum{X: x, Y: y, Value: v}
			want(t, "CheckOptimum", o, exact.CheckOptimum(p, o), o, api.OK)
		}
	}
	for _, o := range []api.Optimum{
		{X: list(2, -1), Y: list(1, 0), Value: v},
		{X: list(1, 0), Y: []api.Rat{r(-1, 1), r(1, 1)}, Value: v},
		{X: list(1, 0), Y: list(3, -1), Value: v},
		{X: list(0, 0), Y: list(1, 0), Value: v},
		{X: list(0, 0), Y: list(1, 0)},
		{X: list(1, 0), Y: list(2, 0), Value: v},
		{X: list(1, 0), Y: list(2, 0), Value: r(2, 1)},
	} {
		want(t, "CheckOptimum", o, exact.CheckOptimum(p, o), o, api.ErrProof)
	}
	// The least program has the certificate without anything.
	want(t, "CheckOptimum of nothing", 0, exact.CheckOptimum(api.Program{}, api.Optimum{}), 0, api.OK)
	want(t, "CheckOptimum of nothing", 0, exact.CheckOptimum(api.Program{}, api.Optimum{Value: v}), 0, api.ErrProof)
	want(t, "CheckOptimum without rows", 0, exact.CheckOptimum(api.Program{C: list(1)}, api.Optimum{X: list(0)}), 0, api.ErrProof)
	want(t, "CheckOptimum without rows", 0, exact.CheckOptimum(api.Program{C: list(0)}, api.Optimum{X: list(5)}), 0, api.OK)
}

// P1.7: what CheckOptimum accepts and refuses of a program without a possible x.
func TestCheckOptimumImpossible(t *testing.T) {
	p := api.Program{A: rows([]int64{1, 0}, []int64{-1, 1}), B: list(1, -2), C: list(1, -1)}
	for _, o := range []api.Optimum{
		{Kind: 1, Y: list(1, 1)},
		{Kind: 1, Y: list(7, 7)},
		{Kind: 1, Y: []api.Rat{r(7, 6), r(1, 1)}},
		{Kind: 1, Y: list(1, 1), X: []api.Rat{}, Ray: []api.Rat{}, Value: api.Rat{Num: limbs(true, 0), Den: limbs(true, 3)}},
	} {
		want(t, "CheckOptimum", o, exact.CheckOptimum(p, o), o, api.OK)
	}
	for _, o := range []api.Optimum{
		{},
		{Kind: 0, Y: list(1, 1)},
		{Kind: 2, Y: list(1, 1)},
		{Kind: 1},
		{Kind: 1, Y: list(0, 0)},
		{Kind: 1, Y: list(2, 1)},  // y B is 0
		{Kind: 1, Y: list(3, 1)},  // y B is positive
		{Kind: 1, Y: list(0, 1)},  // y A is negative in the first column
		{Kind: 1, Y: list(-1, 0)}, // negative
		{Kind: 1, Y: list(1)},
		{Kind: 1, Y: list(1, 1, 0)},
		{Kind: 1, Y: list(1, 1), X: list(0, 0)},
		{Kind: 1, Y: list(1, 1), X: list(0)},
		{Kind: 1, Y: list(1, 1), Ray: list(0, 0)},
		{Kind: 1, Y: list(1, 1), Value: r(1, 1)},
		{Kind: 1, Y: list(1, 1), Value: r(-1, 1)},
	} {
		want(t, "CheckOptimum", o, exact.CheckOptimum(p, o), o, api.ErrProof)
	}
	// Negative where y A >= 0 and y B < 0 hold, and too small in the last column.
	p = api.Program{A: rows([]int64{-1}), B: list(5), C: list(0)}
	want(t, "CheckOptimum", 0, exact.CheckOptimum(p, api.Optimum{Kind: 1, Y: list(-1)}), 0, api.ErrProof)
	p = api.Program{A: rows([]int64{1, -1}), B: list(-1), C: list(0, 0)}
	want(t, "CheckOptimum", 0, exact.CheckOptimum(p, api.Optimum{Kind: 1, Y: list(1)}), 0, api.ErrProof)
}

// P1.7: what CheckOptimum accepts and refuses of a program without bound.
func TestCheckOptimumUnbounded(t *testing.T) {
	p := api.Program{A: rows([]int64{-1, 0}, []int64{1, -1}), B: list(-2, 3), C: list(1, 0)}
	x, ray := list(2, 0), list(1, 1)
	for _, o := range []api.Optimum{
		{Kind: 2, X: x, Ray: ray},
		{Kind: 2, X: list(9, 6), Ray: list(2, 3), Y: []api.Rat{}, Value: api.Rat{Den: limbs(true, 2)}},
	} {
		want(t, "CheckOptimum", o, exact.CheckOptimum(p, o), o, api.OK)
	}
	for _, o := range []api.Optimum{
		{Kind: 0, X: x, Ray: ray},
		{Kind: 0, X: x, Y: list(0, 1), Value: r(2, 1)},
		{Kind: 1, X: x, Ray: ray},
		{Kind: 2},
		{Kind: 2, X: x},
		{Kind: 2, Ray: ray},
		{Kind: 2, X: x, Ray: ray, Y: list(0, 0)},
		{Kind: 2, X: x, Ray: ray, Y: list(0)},
		{Kind: 2, X: x, Ray: ray, Value: r(1, 1)},
		{Kind: 2, X: list(2), Ray: ray},
		{Kind: 2, X: list(2, 0, 0), Ray: ray},
		{Kind: 2, X: x, Ray: list(1)},
		{Kind: 2, X: x, Ray: list(1, 1, 0)},
		{Kind: 2, X: list(1, 0), Ray: ray},  // beyond the first row
		{Kind: 2, X: list(9, 5), Ray: ray},  // beyond the second one
		{Kind: 2, X: list(2, -1), Ray: ray}, // negative
		{Kind: 2, X: x, Ray: list(2, 1)},    // A Ray is positive
		{Kind: 2, X: x, Ray: list(0, 1)},    // C Ray is 0
		{Kind: 2, X: x, Ray: list(-1, 0)},   // negative
	} {
		want(t, "CheckOptimum", o, exact.CheckOptimum(p, o), o, api.ErrProof)
	}
	// A ray and an x that are negative, and possible but for that.
	p = api.Program{A: rows([]int64{1, 1}), B: list(1), C: list(-1, 0)}
	want(t, "CheckOptimum", 0, exact.CheckOptimum(p, api.Optimum{Kind: 2, X: list(0, 0), Ray: list(-1, 0)}), 0, api.ErrProof)
	p = api.Program{A: rows([]int64{1, -1}), B: list(-1), C: list(0, 1)}
	want(t, "CheckOptimum", 0, exact.CheckOptimum(p, api.Optimum{Kind: 2, X: list(-1, 0), Ray: list(0, 1)}), 0, api.ErrProof)
	want(t, "CheckOptimum", 0, exact.CheckOptimum(p, api.Optimum{Kind: 2, X: list(0, 1), Ray: list(0, 1)}), 0, api.OK)
}
