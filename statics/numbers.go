package statics

import (
	"slices"

	"putlog/api"
	"putlog/exact"
)

// sign returns -1, 0 or 1, as x is negative, 0 or positive.
func sign(x api.Rat) int { return exact.Cmp(x, api.Rat{}) }

// opposite returns -x.
func opposite(x api.Rat) api.Rat { return exact.Sub(api.Rat{}, x) }

// over returns x/y; y is not 0.
func over(x, y api.Rat) api.Rat {
	q, _ := exact.Quo(x, y)
	return q
}

// zeros returns n fractions of the value 0.
func zeros(n int) []api.Rat { return wholeVector(make([]int, n)).fractions() }

// scaled returns each element of l times x.
func scaled(l []api.Rat, x api.Rat) []api.Rat {
	out := make([]api.Rat, len(l))
	for i, y := range l {
		out[i] = exact.Mul(y, x)
	}
	return out
}

// A vector is a list of fractions with one positive denominator. Its integers are added and multiplied
// without looking for common divisors, which takes most of the time where numbers are long.
type vector struct {
	nums []api.Int
	den  api.Int
}

// vectorOf returns l as a vector.
func vectorOf(l []api.Rat) vector {
	v := vector{nums: make([]api.Int, len(l)), den: exact.Of(1)}
	normal := make([]api.Rat, len(l))
	for i, x := range l {
		normal[i] = exact.Normal(x)
		v.den = commonMultiple(v.den, normal[i].Den)
	}
	for i, x := range normal {
		v.nums[i] = exact.Prod(x.Num, quotient(v.den, x.Den))
	}
	return v
}

// wholeVector returns integers as a vector.
func wholeVector(l []int) vector { return vector{nums: wholes(l), den: exact.Of(1)} }

// at returns an element of v.
func (v vector) at(i int) api.Rat { return exact.Normal(v.raw(i)) }

// raw returns an element of v, not in normal form and in the memory of v.
func (v vector) raw(i int) api.Rat { return api.Rat{Num: v.nums[i], Den: v.den} }

// fractions returns the elements of v.
func (v vector) fractions() []api.Rat {
	out := make([]api.Rat, len(v.nums))
	for i := range v.nums {
		out[i] = v.at(i)
	}
	return out
}

// hasValues reports whether the elements of v have the values of l, which has as many.
func (v vector) hasValues(l []api.Rat) bool {
	for i, x := range l {
		if exact.Cmp(v.raw(i), x) != 0 {
			return false
		}
	}
	return true
}

// times returns v times x, whose denominator is positive.
func (v vector) times(x api.Rat) vector {
	out := vector{nums: make([]api.Int, len(v.nums)), den: exact.Prod(v.den, x.Den)}
	for i, n := range v.nums {
		out.nums[i] = exact.Prod(n, x.Num)
	}
	return out
}

// product returns the sum of the products of two vectors of one length.
func product(v, w vector) api.Rat {
	sum := api.Int{}
	for i, n := range v.nums {
		sum = exact.Sum(sum, exact.Prod(n, w.nums[i]))
	}
	return exact.Normal(api.Rat{Num: sum, Den: exact.Prod(v.den, w.den)})
}

// isZero reports whether an integer in normal form is 0.
func isZero(n api.Int) bool { return len(n.Limbs) == 0 }

func areZero(l []api.Int) bool {
	return !slices.ContainsFunc(l, func(n api.Int) bool { return !isZero(n) })
}

func wholes(l []int) []api.Int {
	out := make([]api.Int, len(l))
	for i, n := range l {
		out[i] = exact.Of(n)
	}
	return out
}

func negative(n api.Int) api.Int { return exact.Diff(api.Int{}, n) }

// quotient returns n/by, which leaves no rest.
func quotient(n, by api.Int) api.Int {
	q, _, _ := exact.Divide(n, by)
	return q
}

// commonMultiple returns the least common multiple of two positive integers.
func commonMultiple(n, m api.Int) api.Int {
	return exact.Prod(n, exact.Normal(api.Rat{Num: n, Den: m}).Den)
}
