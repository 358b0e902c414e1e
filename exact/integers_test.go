package exact_test

import (
	"math"
	"math/big"
	"testing"

	"putlog/api"
	"putlog/exact"
)

// P1.1: Of.
func TestOf(t *testing.T) {
	for _, n := range []int{0, 1, -1, 4294967295, 4294967296, -4294967296, math.MaxInt64, -math.MaxInt64, math.MinInt64} {
		wantInt(t, "Of", exact.Of(n), big.NewInt(int64(n)))
	}
}

// P1.1: Small.
func TestSmall(t *testing.T) {
	for _, x := range []struct {
		x  api.Int
		n  int
		ok bool
	}{
		{api.Int{}, 0, true},
		{limbs(true), 0, true},
		{limbs(true, 0, 0, 0), 0, true},
		{limbs(true, 7), -7, true},
		{limbs(false, 4294967295), 4294967295, true},
		{limbs(false, 7, 1, 0, 0, 0), 4294967303, true},
		{limbs(false, 0xffffffff, 0x7fffffff), math.MaxInt64, true},
		{limbs(true, 0xffffffff, 0x7fffffff), -math.MaxInt64, true},
		{limbs(true, 0, 0x80000000, 0), math.MinInt64, true},
		{limbs(false, 0, 0x80000000), 0, false},
		{limbs(true, 1, 0x80000000), 0, false},
		{limbs(false, 0xffffffff, 0xffffffff), 0, false},
		{limbs(true, 0xffffffff, 0xffffffff), 0, false},
		{limbs(false, 0, 0, 1), 0, false},
		{limbs(true, 5, 0, 1), 0, false},
	} {
		n, ok := exact.Small(x.x)
		if n != x.n || ok != x.ok {
			t.Errorf("Small(%v): %d, %t", x.x, n, ok)
		}
	}
}

// P1.1: Sum, Diff, Prod and CmpInt, of integers in normal form or not.
func TestSumDiffProd(t *testing.T) {
	d := dice()
	for i := range 6000 {
		size := 1 + i%7
		x, y := someInt(d, size), someInt(d, 1+i%5)
		if i%50 == 0 {
			y = x
		}
		if i%50 == 1 {
			y = api.Int{Neg: !x.Neg, Limbs: x.Limbs}
		}
		a, b := bigInt(x), bigInt(y)
		wantInt(t, "Sum", exact.Sum(x, y), new(big.Int).Add(a, b))
		wantInt(t, "Diff", exact.Diff(x, y), new(big.Int).Sub(a, b))
		wantInt(t, "Prod", exact.Prod(x, y), new(big.Int).Mul(a, b))
		want(t, "CmpInt", exact.CmpInt(x, y), 0, a.Cmp(b), 0)
	}
}

// P1.1: carries and borrows through all limbs.
func TestCarries(t *testing.T) {
	ones := limbs(false, 0xffffffff, 0xffffffff, 0xffffffff)
	wantInt(t, "Sum", exact.Sum(ones, exact.Of(1)), bigInt(limbs(false, 0, 0, 0, 1)))
	wantInt(t, "Diff", exact.Diff(limbs(false, 0, 0, 0, 1), exact.Of(1)), bigInt(ones))
	wantInt(t, "Sum of opposite signs", exact.Sum(exact.Of(1), limbs(true, 0, 0, 0, 1)), bigInt(limbs(true, 0xffffffff, 0xffffffff, 0xffffffff)))
	wantInt(t, "Prod", exact.Prod(ones, ones), new(big.Int).Mul(bigInt(ones), bigInt(ones)))
	wantInt(t, "Sum to 0", exact.Sum(ones, limbs(true, 0xffffffff, 0xffffffff, 0xffffffff, 0)), new(big.Int))
	wantInt(t, "Diff of two zeros", exact.Diff(limbs(true), limbs(true, 0)), new(big.Int))
	wantInt(t, "Prod with 0", exact.Prod(limbs(true, 5), limbs(false, 0, 0)), new(big.Int))
}

// wantDivision compares Divide with the Euclidean division of math/big.
func wantDivision(t *testing.T, x, y api.Int) {
	t.Helper()
	q, r, e := exact.Divide(x, y)
	if bigInt(y).Sign() == 0 {
		want(t, "Divide by 0", []api.Int{q, r}, e, []api.Int{{}, {}}, api.ErrZero)
		return
	}
	a, b := new(big.Int).DivMod(bigInt(x), bigInt(y), new(big.Int))
	want(t, "Divide", []api.Int{q, r}, e, []api.Int{intOf(a), intOf(b)}, api.OK)
}

// P1.1: Divide, with all signs, of integers in normal form or not.
func TestDivide(t *testing.T) {
	d := dice()
	for i := range 20000 {
		x, y := someInt(d, 1+i%9), someInt(d, 1+i%5)
		wantDivision(t, x, y)
		// A dividend that lies closely at a multiple.
		near := exact.Sum(exact.Prod(x, y), exact.Of(i%3-1))
		wantDivision(t, near, y)
	}
	for a := -9; a <= 9; a++ {
		for b := -4; b <= 4; b++ {
			wantDivision(t, exact.Of(a), exact.Of(b))
		}
	}
}

// P1.1: dividends for which a digit of the quotient is easily guessed too large.
func TestDivideHardDigits(t *testing.T) {
	edges := []uint32{0, 1, 2, 0x7fffffff, 0x80000000, 0x80000001, 0xfffffffe, 0xffffffff}
	n := uint32(len(edges))
	for i := range n * n * n * n {
		x := limbs(i%3 == 0, edges[i%n], edges[i/n%n], edges[i/n/n%n], edges[i/n/n/n])
		for j := range n * n {
			wantDivision(t, x, limbs(j%2 == 0, edges[j%n], edges[j/n]))
		}
		wantDivision(t, x, limbs(false, edges[i%5], edges[i%7], 0x80000000))
		wantDivision(t, x, limbs(true, 0xffffffff, 0, 0x80000000))
	}
}

// P1.1: ErrZero for whatever is 0, and nothing beside it.
func TestDivideByZero(t *testing.T) {
	for _, y := range []api.Int{{}, limbs(true), limbs(false, 0), limbs(true, 0, 0, 0)} {
		q, r, e := exact.Divide(exact.Of(7), y)
		want(t, "Divide by 0", []api.Int{q, r}, e, []api.Int{{}, {}}, api.ErrZero)
	}
}

// P1.1: the order of integers.
func TestCmpInt(t *testing.T) {
	order := []api.Int{
		limbs(true, 0, 0, 1), limbs(true, 0xffffffff, 0xffffffff), limbs(true, 1, 1), limbs(true, 0, 1), limbs(true, 2, 0), limbs(true, 1),
		limbs(true, 0), limbs(false, 1), limbs(false, 2, 0, 0), limbs(false, 0, 1), limbs(false, 1, 1), limbs(false, 0xffffffff, 0xffffffff), limbs(false, 0, 0, 1),
	}
	for i, x := range order {
		for j, y := range order {
			want(t, "CmpInt", exact.CmpInt(x, y), 0, big.NewInt(int64(i)).Cmp(big.NewInt(int64(j))), 0)
		}
	}
	want(t, "CmpInt of zeros", exact.CmpInt(limbs(true), limbs(false, 0)), 0, 0, 0)
}
