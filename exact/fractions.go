package exact

import (
	"slices"

	"putlog/api"
)

// Whole returns n.
func Whole(n int) api.Rat { return fraction(Of(n), Of(1)) }

// Ratio returns a/b.
func Ratio(a, b int) (api.Rat, api.Errno) {
	if b == 0 {
		return api.Rat{}, api.ErrZero
	}
	return fraction(Of(a), Of(b)), api.OK
}

// Normal returns the normal form of x.
func Normal(x api.Rat) api.Rat { return fraction(terms(x)) }

// Add returns x + y.
func Add(x, y api.Rat) api.Rat {
	a, b := terms(x)
	c, d := terms(y)
	return fraction(Sum(Prod(a, d), Prod(c, b)), Prod(b, d))
}

// Sub returns x - y.
func Sub(x, y api.Rat) api.Rat {
	a, b := terms(x)
	c, d := terms(y)
	return fraction(Diff(Prod(a, d), Prod(c, b)), Prod(b, d))
}

// Mul returns x y.
func Mul(x, y api.Rat) api.Rat {
	a, b := terms(x)
	c, d := terms(y)
	return fraction(Prod(a, c), Prod(b, d))
}

// Quo returns x/y.
func Quo(x, y api.Rat) (api.Rat, api.Errno) {
	a, b := terms(x)
	c, d := terms(y)
	if isZero(c) {
		return api.Rat{}, api.ErrZero
	}
	return fraction(Prod(a, d), Prod(b, c)), api.OK
}

// Cmp compares x and y.
func Cmp(x, y api.Rat) int {
	a, b := terms(x)
	c, d := terms(y)
	return CmpInt(Prod(a, d), Prod(c, b))
}

// Floor returns the greatest integer that is at most x.
func Floor(x api.Rat) api.Int {
	q, _, _ := Divide(terms(x))
	return q
}

// terms returns a numerator and a positive denominator of x, in the memory of x.
func terms(x api.Rat) (num, den api.Int) {
	num, den = read(x.Num), read(x.Den)
	switch {
	case isZero(den):
		return num, Of(1)
	case den.Neg:
		return opposite(num), opposite(den)
	}
	return num, den
}

// fraction returns the normal form of num/den in new memory; den is not 0.
func fraction(num, den api.Int) api.Rat {
	common := commonLimbs(num.Limbs, den.Limbs)
	return api.Rat{
		Num: signed(num.Neg != den.Neg, reduced(num.Limbs, common)),
		Den: signed(false, reduced(den.Limbs, common)),
	}
}

// reduced returns l divided by its divisor common, in new memory.
func reduced(l, common []uint32) []uint32 {
	if isOne(common) {
		return slices.Clone(l)
	}
	q, _ := divideLimbs(l, common)
	return q
}

func isOne(l []uint32) bool { return len(l) == 1 && l[0] == 1 }

// signOfRat returns -1, 0 or 1, as x is negative, 0 or positive.
func signOfRat(x api.Rat) int {
	num, _ := terms(x)
	return signOf(num)
}
