package exact

import (
	"math/bits"

	"putlog/api"
)

// CmpRoots compares x times the square root of m with y times that of n.
func CmpRoots(x api.Rat, m int, y api.Rat, n int) (int, api.Errno) {
	if m < 0 || n < 0 {
		return 0, api.ErrRange
	}
	return Cmp(signedSquare(x, m), signedSquare(y, n)), api.OK
}

// signedSquare returns the square of x times the square root of m, with the sign of x: it orders as the product itself does.
func signedSquare(x api.Rat, m int) api.Rat {
	size := x
	if signOfRat(x) < 0 {
		size.Num = opposite(x.Num)
	}
	return Mul(Mul(x, size), Whole(m))
}

// RootBelow returns the greatest fraction over den whose square is at most n.
func RootBelow(n, den int) (api.Rat, api.Errno) {
	if n < 0 || den < 1 || den > 1000000 {
		return api.Rat{}, api.ErrRange
	}
	high, low := bits.Mul64(uint64(n), uint64(den)*uint64(den))
	k := uint64(0)
	// The root of the greatest int is less than 2^32, that of a million squared less than 2^20.
	for bit := uint64(1) << 51; bit > 0; bit >>= 1 {
		if squareFits(k|bit, high, low) {
			k |= bit
		}
	}
	return fraction(signed(false, limbsOf(k)), Of(den)), api.OK
}

// squareFits reports whether the square of k is at most high 2^64 + low.
func squareFits(k, high, low uint64) bool {
	h, l := bits.Mul64(k, k)
	return h < high || h == high && l <= low
}
