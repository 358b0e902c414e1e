package exact_test

import (
	"fmt"
	"math/big"
	"math/rand"
	"testing"

	"putlog/api"
	"putlog/exact"
)

// The tests call the exported functions only, and compare with math/big.

// limbs is an integer as it is written, in normal form or not.
func limbs(neg bool, l ...uint32) api.Int { return api.Int{Neg: neg, Limbs: l} }

// bigInt is the value of x.
func bigInt(x api.Int) *big.Int {
	out := new(big.Int)
	for i := len(x.Limbs) - 1; i >= 0; i-- {
		out.Lsh(out, 32)
		out.Or(out, big.NewInt(int64(x.Limbs[i])))
	}
	if x.Neg {
		out.Neg(out)
	}
	return out
}

// intOf is the normal form of x.
func intOf(x *big.Int) api.Int {
	out := api.Int{Neg: x.Sign() < 0}
	rest := new(big.Int).Abs(x)
	for rest.Sign() > 0 {
		out.Limbs = append(out.Limbs, uint32(rest.Uint64()))
		rest.Rsh(rest, 32)
	}
	return out
}

// bigRat is the value of x.
func bigRat(x api.Rat) *big.Rat {
	den := bigInt(x.Den)
	if den.Sign() == 0 {
		den = big.NewInt(1)
	}
	return new(big.Rat).SetFrac(bigInt(x.Num), den)
}

// ratOf is the normal form of x.
func ratOf(x *big.Rat) api.Rat { return api.Rat{Num: intOf(x.Num()), Den: intOf(x.Denom())} }

// r is the fraction a/b, in normal form.
func r(a, b int64) api.Rat { return ratOf(big.NewRat(a, b)) }

// list is a list of small integers.
func list(l ...int64) []api.Rat {
	out := []api.Rat{}
	for _, n := range l {
		out = append(out, r(n, 1))
	}
	return out
}

// rows is a matrix of small integers.
func rows(m ...[]int64) [][]api.Rat {
	out := [][]api.Rat{}
	for _, row := range m {
		out = append(out, list(row...))
	}
	return out
}

// same compares two values by their texts, in which a nil slice is as an empty one.
func same(a, b any) bool { return fmt.Sprint(a) == fmt.Sprint(b) }

// want compares what a call returns with what it should.
func want(t *testing.T, what string, got any, e api.Errno, right any, f api.Errno) {
	t.Helper()
	if !same(got, right) || e != f {
		t.Errorf("%s: %v, error %d; want %v, error %d", what, got, e, right, f)
	}
}

// wantInt compares an integer with the normal form of another.
func wantInt(t *testing.T, what string, got api.Int, right *big.Int) {
	t.Helper()
	if !same(got, intOf(right)) {
		t.Errorf("%s: %v, want %v", what, got, intOf(right))
	}
}

// wantRat compares a fraction with the normal form of another.
func wantRat(t *testing.T, what string, got api.Rat, right *big.Rat) {
	t.Helper()
	if !same(got, ratOf(right)) {
		t.Errorf("%s: %v, want %v", what, got, ratOf(right))
	}
}

// texts shows fractions.
func texts(l []api.Rat) []string {
	out := []string{}
	for _, x := range l {
		out = append(out, exact.Format(x))
	}
	return out
}

// dice is a repeatable row of chances.
func dice() *rand.Rand { return rand.New(rand.NewSource(7)) }

// someLimb is a limb, often one at which carries begin.
func someLimb(d *rand.Rand) uint32 {
	edges := []uint32{0, 0, 1, 2, 0x7fffffff, 0x80000000, 0x80000001, 0xfffffffe, 0xffffffff, 0xffffffff}
	if d.Intn(2) == 0 {
		return d.Uint32()
	}
	return edges[d.Intn(len(edges))]
}

// someInt is an integer of at most n limbs, in normal form or not.
func someInt(d *rand.Rand, n int) api.Int {
	x := api.Int{Neg: d.Intn(2) == 0}
	for range d.Intn(n + 1) {
		x.Limbs = append(x.Limbs, someLimb(d))
	}
	for range d.Intn(3) {
		x.Limbs = append(x.Limbs, 0)
	}
	return x
}

// someRat is a fraction of at most n limbs, in normal form or not.
func someRat(d *rand.Rand, n int) api.Rat { return api.Rat{Num: someInt(d, n), Den: someInt(d, n)} }

// someMatrix is a matrix of small fractions, many of which are 0.
func someMatrix(d *rand.Rand, n, m, size, den int) [][]api.Rat {
	out := make([][]api.Rat, n)
	for i := range out {
		out[i] = someList(d, m, size, den)
	}
	return out
}

// someList is a list of small fractions, many of which are 0.
func someList(d *rand.Rand, n, size, den int) []api.Rat {
	out := []api.Rat{}
	for range n {
		a := int64(d.Intn(2*size+1) - size)
		if d.Intn(4) == 0 {
			a = 0
		}
		out = append(out, r(a, int64(1+d.Intn(den))))
	}
	return out
}

// repeated is a matrix of n rows and m columns of 1.
func repeated(n, m int) [][]api.Rat {
	out := make([][]api.Rat, n)
	for i := range out {
		for range m {
			out[i] = append(out[i], r(1, 1))
		}
	}
	return out
}

// unit is the matrix with 1 in its diagonal.
func unit(n int) [][]api.Rat {
	out := repeated(n, n)
	for i, row := range out {
		for j := range row {
			if i != j {
				row[j] = r(0, 1)
			}
		}
	}
	return out
}

// turn is the transposed matrix of a matrix with rows.
func turn(m [][]api.Rat) [][]api.Rat {
	out := make([][]api.Rat, len(m[0]))
	for _, row := range m {
		for j, x := range row {
			out[j] = append(out[j], x)
		}
	}
	return out
}

// bigDot is the sum of the products of two lists.
func bigDot(l, k []api.Rat) *big.Rat {
	sum := new(big.Rat)
	for i := range l {
		sum.Add(sum, new(big.Rat).Mul(bigRat(l[i]), bigRat(k[i])))
	}
	return sum
}

// echelon is the reduced echelon form of a matrix, with the columns of its pivots.
func echelon(m [][]api.Rat) ([][]*big.Rat, []int) {
	var out [][]*big.Rat
	for _, row := range m {
		var l []*big.Rat
		for _, x := range row {
			l = append(l, bigRat(x))
		}
		out = append(out, l)
	}
	var pivots []int
	for c := 0; len(m) > 0 && c < len(m[0]); c++ {
		at := len(pivots)
		for at < len(out) && out[at][c].Sign() == 0 {
			at++
		}
		if at == len(out) {
			continue
		}
		k := len(pivots)
		out[k], out[at] = out[at], out[k]
		pivots = append(pivots, c)
		clearColumn(out, k, c)
	}
	return out, pivots
}

// clearColumn makes the element in row k and column c 1, and the others of the column 0.
func clearColumn(m [][]*big.Rat, k, c int) {
	by := new(big.Rat).Inv(m[k][c])
	for j := range m[k] {
		m[k][j] = new(big.Rat).Mul(m[k][j], by)
	}
	for i := range m {
		if i == k {
			continue
		}
		f := new(big.Rat).Set(m[i][c])
		for j := range m[i] {
			m[i][j] = new(big.Rat).Sub(m[i][j], new(big.Rat).Mul(f, m[k][j]))
		}
	}
}

// copyList is a copy in memory of its own.
func copyList(l []api.Rat) []api.Rat {
	out := []api.Rat{}
	for _, x := range l {
		out = append(out, api.Rat{Num: copyInt(x.Num), Den: copyInt(x.Den)})
	}
	return out
}

func copyInt(x api.Int) api.Int { return limbs(x.Neg, append([]uint32{}, x.Limbs...)...) }

func copyRows(m [][]api.Rat) [][]api.Rat {
	out := [][]api.Rat{}
	for _, row := range m {
		out = append(out, copyList(row))
	}
	return out
}
