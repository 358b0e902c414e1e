package exact

import (
	"math"

	"putlog/api"
)

// Of returns n.
func Of(n int) api.Int {
	size := uint64(n)
	if n < 0 {
		size = -size
	}
	return signed(n < 0, limbsOf(size))
}

// Small returns the value of x, and whether it is an int.
func Small(x api.Int) (int, bool) {
	x = read(x)
	if len(x.Limbs) > 2 {
		return 0, false
	}
	size := word(x.Limbs)
	switch {
	case size <= math.MaxInt64 && x.Neg:
		return -int(size), true
	case size <= math.MaxInt64:
		return int(size), true
	case size == 1<<63 && x.Neg:
		return math.MinInt64, true
	}
	return 0, false
}

// Sum returns x + y.
func Sum(x, y api.Int) api.Int {
	x, y = read(x), read(y)
	if x.Neg == y.Neg {
		return signed(x.Neg, addLimbs(x.Limbs, y.Limbs))
	}
	if compareLimbs(x.Limbs, y.Limbs) >= 0 {
		return signed(x.Neg, subtractLimbs(x.Limbs, y.Limbs))
	}
	return signed(y.Neg, subtractLimbs(y.Limbs, x.Limbs))
}

// Diff returns x - y.
func Diff(x, y api.Int) api.Int { return Sum(x, opposite(y)) }

// Prod returns x y.
func Prod(x, y api.Int) api.Int {
	x, y = read(x), read(y)
	return signed(x.Neg != y.Neg, multiplyLimbs(x.Limbs, y.Limbs))
}

// Divide returns q and r with x = q y + r and 0 <= r < |y|.
func Divide(x, y api.Int) (q, r api.Int, e api.Errno) {
	x, y = read(x), read(y)
	if isZero(y) {
		return api.Int{}, api.Int{}, api.ErrZero
	}
	quotient, rest := divideLimbs(x.Limbs, y.Limbs)
	if x.Neg && len(rest) > 0 {
		quotient = addLimbs(quotient, []uint32{1})
		rest = subtractLimbs(y.Limbs, rest)
	}
	return signed(x.Neg != y.Neg, quotient), signed(false, rest), api.OK
}

// CmpInt compares x and y.
func CmpInt(x, y api.Int) int {
	x, y = read(x), read(y)
	switch {
	case x.Neg != y.Neg && x.Neg:
		return -1
	case x.Neg != y.Neg:
		return 1
	case x.Neg:
		return compareLimbs(y.Limbs, x.Limbs)
	}
	return compareLimbs(x.Limbs, y.Limbs)
}

// read returns the normal form of x, in the memory of x.
func read(x api.Int) api.Int { return signed(x.Neg, trim(x.Limbs)) }

func signed(neg bool, l []uint32) api.Int { return api.Int{Neg: neg && len(l) > 0, Limbs: l} }

// opposite returns -x, in the memory of x.
func opposite(x api.Int) api.Int { return api.Int{Neg: !x.Neg, Limbs: x.Limbs} }

func isZero(x api.Int) bool { return len(trim(x.Limbs)) == 0 }

// signOf returns -1, 0 or 1, as x is negative, 0 or positive.
func signOf(x api.Int) int { return CmpInt(x, api.Int{}) }

// quotient returns the quotient of x by y, which divides it and is not 0.
func quotient(x, y api.Int) api.Int {
	q, _, _ := Divide(x, y)
	return q
}

// cross returns (p a - q b) / d, where d divides the difference and is not 0.
func cross(p, a, q, b, d api.Int) api.Int {
	return quotient(Diff(Prod(p, a), Prod(q, b)), d)
}
