package exact

import "putlog/api"

// A vector is a list of fractions with one positive denominator. Its integers may lie in the memory of
// the arguments that it was made of: results are made of them by fraction, which returns new memory.
type vector struct {
	nums []api.Int
	den  api.Int
}

// vectorOf returns l as a vector.
func vectorOf(l []api.Rat) vector {
	v := vector{nums: make([]api.Int, len(l)), den: Of(1)}
	dens := make([]api.Int, len(l))
	for i, x := range l {
		v.nums[i], dens[i] = terms(x)
		v.den = commonMultiple(v.den, dens[i])
	}
	for i, den := range dens {
		if CmpInt(den, v.den) != 0 {
			v.nums[i] = Prod(v.nums[i], quotient(v.den, den))
		}
	}
	return v
}

// commonMultiple returns the least common multiple of two positive integers.
func commonMultiple(x, y api.Int) api.Int {
	if isOne(y.Limbs) || CmpInt(x, y) == 0 {
		return x
	}
	return Prod(x, signed(false, reduced(y.Limbs, commonLimbs(x.Limbs, y.Limbs))))
}

// dot returns the sum of the products of two vectors of one length, not in normal form.
func dot(v, w vector) api.Rat {
	sum := api.Int{}
	for i, x := range v.nums {
		sum = Sum(sum, Prod(x, w.nums[i]))
	}
	return api.Rat{Num: sum, Den: Prod(v.den, w.den)}
}

// matrixError returns the error of a matrix.
func matrixError(m [][]api.Rat) api.Errno {
	for _, row := range m {
		if len(row) != width(m) {
			return api.ErrShape
		}
	}
	if len(m) > api.MaxMatrix || width(m) > api.MaxMatrix {
		return api.ErrLarge
	}
	return api.OK
}

// width returns the number of columns of a matrix.
func width(m [][]api.Rat) int {
	if len(m) == 0 {
		return 0
	}
	return len(m[0])
}

// column returns the elements of m in the column j.
func column(m [][]api.Rat, j int) []api.Rat {
	out := make([]api.Rat, len(m))
	for i, row := range m {
		out[i] = row[j]
	}
	return out
}

// zeros returns n fractions of the value 0.
func zeros(n int) []api.Rat {
	out := make([]api.Rat, n)
	for i := range out {
		out[i] = Whole(0)
	}
	return out
}

// sameList reports whether two lists have the same values.
func sameList(l, k []api.Rat) bool {
	if len(l) != len(k) {
		return false
	}
	for i, x := range l {
		if Cmp(x, k[i]) != 0 {
			return false
		}
	}
	return true
}
