package exact_test

import (
	"math"
	"math/big"
	"testing"

	"putlog/api"
	"putlog/exact"
)

// P1.2: Whole and Ratio.
func TestWholeAndRatio(t *testing.T) {
	ints := []int{0, 1, -1, 4, -6, 30, 4294967296, -4294967296, math.MaxInt64, math.MinInt64}
	for _, a := range ints {
		wantRat(t, "Whole", exact.Whole(a), new(big.Rat).SetInt64(int64(a)))
		for _, b := range ints {
			x, e := exact.Ratio(a, b)
			if b == 0 {
				want(t, "Ratio over 0", x, e, api.Rat{}, api.ErrZero)
				continue
			}
			want(t, "Ratio", x, e, ratOf(new(big.Rat).SetFrac(big.NewInt(int64(a)), big.NewInt(int64(b)))), api.OK)
		}
	}
}

// P1.2: Normal.
func TestNormal(t *testing.T) {
	one := limbs(false, 1)
	for _, x := range []struct{ x, want api.Rat }{
		{api.Rat{}, api.Rat{Den: one}},
		{api.Rat{Num: limbs(true, 0), Den: limbs(true, 5)}, api.Rat{Den: one}},
		{api.Rat{Num: limbs(false, 6, 0)}, api.Rat{Num: limbs(false, 6), Den: one}},
		{api.Rat{Num: limbs(true, 6), Den: limbs(true, 0, 0)}, api.Rat{Num: limbs(true, 6), Den: one}},
		{api.Rat{Num: limbs(true, 6), Den: limbs(true, 4)}, api.Rat{Num: limbs(false, 3), Den: limbs(false, 2)}},
		{api.Rat{Num: limbs(false, 6), Den: limbs(true, 4, 0)}, api.Rat{Num: limbs(true, 3), Den: limbs(false, 2)}},
		{api.Rat{Num: limbs(false, 0, 0, 4), Den: limbs(false, 0, 6)}, api.Rat{Num: limbs(false, 0, 2), Den: limbs(false, 3)}},
	} {
		want(t, "Normal", exact.Normal(x.x), 0, x.want, 0)
	}
	d := dice()
	for i := range 4000 {
		x := someRat(d, 1+i%6)
		f := someInt(d, 1+i%4)
		if bigInt(f).Sign() != 0 && bigInt(x.Den).Sign() != 0 {
			x = api.Rat{Num: exact.Prod(x.Num, f), Den: exact.Prod(x.Den, f)}
		}
		wantRat(t, "Normal", exact.Normal(x), bigRat(x))
	}
}

// P1.2: the operations and the order, of fractions in normal form or not.
func TestFractions(t *testing.T) {
	d := dice()
	for i := range 4000 {
		x, y := someRat(d, 1+i%4), someRat(d, 1+i%3)
		if i%40 == 0 {
			y = api.Rat{Num: exact.Prod(x.Num, exact.Of(-6)), Den: exact.Prod(x.Den, exact.Of(-6))}
		}
		a, b := bigRat(x), bigRat(y)
		wantRat(t, "Add", exact.Add(x, y), new(big.Rat).Add(a, b))
		wantRat(t, "Sub", exact.Sub(x, y), new(big.Rat).Sub(a, b))
		wantRat(t, "Mul", exact.Mul(x, y), new(big.Rat).Mul(a, b))
		want(t, "Cmp", exact.Cmp(x, y), 0, a.Cmp(b), 0)
		q, e := exact.Quo(x, y)
		if b.Sign() == 0 {
			want(t, "Quo by 0", q, e, api.Rat{}, api.ErrZero)
		} else {
			want(t, "Quo", q, e, ratOf(new(big.Rat).Quo(a, b)), api.OK)
		}
		floor := new(big.Int).Div(a.Num(), a.Denom())
		wantInt(t, "Floor", exact.Floor(x), floor)
	}
}

// P1.2: small cases by hand.
func TestFractionsByHand(t *testing.T) {
	want(t, "Add", exact.Add(r(1, 2), r(1, 3)), 0, r(5, 6), 0)
	want(t, "Add to 0", exact.Add(r(1, 2), r(-1, 2)), 0, r(0, 1), 0)
	want(t, "Sub", exact.Sub(r(1, 6), r(2, 3)), 0, r(-1, 2), 0)
	want(t, "Mul", exact.Mul(r(-2, 3), r(3, 4)), 0, r(-1, 2), 0)
	want(t, "Cmp", exact.Cmp(r(-1, 2), r(-1, 3)), 0, -1, 0)
	want(t, "Cmp of a negative denominator", exact.Cmp(api.Rat{Num: limbs(false, 1), Den: limbs(true, 2)}, api.Rat{}), 0, -1, 0)
	x, e := exact.Quo(r(1, 2), r(-1, 4))
	want(t, "Quo", x, e, r(-2, 1), api.OK)
	x, e = exact.Quo(r(0, 1), r(-5, 3))
	want(t, "Quo of 0", x, e, r(0, 1), api.OK)
	for _, zero := range []api.Rat{{}, r(0, 1), {Num: limbs(true, 0), Den: limbs(true, 3)}} {
		x, e = exact.Quo(r(1, 2), zero)
		want(t, "Quo by 0", x, e, api.Rat{}, api.ErrZero)
	}
	for _, x := range []struct {
		x    api.Rat
		want int
	}{{r(-3, 2), -2}, {r(3, 2), 1}, {r(-4, 2), -2}, {r(-1, 9), -1}, {r(1, 9), 0}, {api.Rat{}, 0}, {api.Rat{Num: limbs(false, 3), Den: limbs(true, 2)}, -2}} {
		want(t, "Floor", exact.Floor(x.x), 0, exact.Of(x.want), 0)
	}
}

// P1.3: CmpRoots by hand.
func TestCmpRoots(t *testing.T) {
	for _, x := range []struct {
		x       api.Rat
		m       int
		y       api.Rat
		n, want int
	}{
		{r(3, 1), 2, r(2, 1), 5, -1},
		{r(2, 1), 5, r(3, 1), 2, 1},
		{r(-1, 1), 2, r(-1, 1), 3, 1},
		{r(-1, 1), 3, r(-1, 1), 2, -1},
		{r(-1, 1), 2, r(1, 1), 2, -1},
		{r(1, 9), 2, r(-5, 1), 7, 1},
		{r(1, 2), 8, r(1, 1), 2, 0},
		{r(-1, 2), 8, r(-1, 1), 2, 0},
		{r(5, 1), 0, r(-1, 1), 0, 0},
		{r(-5, 1), 0, r(0, 1), 7, 0},
		{r(-5, 1), 0, r(1, 7), 1, -1},
		{r(5, 1), 0, r(-1, 7), 1, 1},
		{r(0, 1), 3, r(-1, 1), 1, 1},
		{api.Rat{Num: limbs(false, 1), Den: limbs(true, 2)}, 9, api.Rat{}, 1, -1},
		{r(1, 1), math.MaxInt64, r(3037000500, 1), 1, -1},
		{r(1, 1), math.MaxInt64, r(3037000499, 1), 1, 1},
	} {
		c, e := exact.CmpRoots(x.x, x.m, x.y, x.n)
		want(t, "CmpRoots", c, e, x.want, api.OK)
	}
	for _, x := range [][2]int{{-1, 1}, {1, -1}, {math.MinInt64, 0}, {0, math.MinInt64}, {-1, -1}} {
		c, e := exact.CmpRoots(r(1, 1), x[0], r(2, 1), x[1])
		want(t, "CmpRoots of a negative number", c, e, 0, api.ErrRange)
	}
}

// P1.3: CmpRoots, compared with squares that have signs.
func TestCmpRootsOften(t *testing.T) {
	d := dice()
	square := func(x api.Rat, m int) *big.Rat {
		a := bigRat(x)
		s := new(big.Rat).Mul(a, new(big.Rat).Abs(a))
		return s.Mul(s, new(big.Rat).SetInt64(int64(m)))
	}
	for i := range 3000 {
		x, y := someRat(d, 1+i%2), someRat(d, 1+i%3)
		m, n := d.Intn(30), d.Intn(1000000)
		if i%20 == 0 {
			y, n = exact.Mul(x, r(1, 3)), 9*m
		}
		c, e := exact.CmpRoots(x, m, y, n)
		want(t, "CmpRoots", c, e, square(x, m).Cmp(square(y, n)), api.OK)
	}
}

// P1.3: RootBelow is the greatest one whose square is at most n.
func TestRootBelow(t *testing.T) {
	ns := []int{0, 1, 2, 3, 4, 8, 9, 10, 99, 100, 8000000, 1000000000000, math.MaxInt64, math.MaxInt64 - 1, 3037000499 * 3037000499, 3037000499*3037000499 - 1}
	for _, n := range ns {
		for _, den := range []int{1, 2, 3, 4, 7, 100, 1000, 999999, 1000000} {
			x, e := exact.RootBelow(n, den)
			scaled := new(big.Int).Mul(big.NewInt(int64(n)), new(big.Int).Mul(big.NewInt(int64(den)), big.NewInt(int64(den))))
			k := new(big.Int).Sqrt(scaled)
			want(t, "RootBelow", x, e, ratOf(new(big.Rat).SetFrac(k, big.NewInt(int64(den)))), api.OK)
		}
	}
	x, e := exact.RootBelow(2, 100)
	want(t, "RootBelow(2, 100)", x, e, r(141, 100), api.OK)
	x, e = exact.RootBelow(9, 4)
	want(t, "RootBelow(9, 4)", x, e, r(3, 1), api.OK)
	for _, x := range [][2]int{{-1, 1}, {math.MinInt64, 1}, {2, 0}, {2, -1}, {2, 1000001}, {2, math.MinInt64}, {2, math.MaxInt64}, {-1, 0}} {
		y, e := exact.RootBelow(x[0], x[1])
		want(t, "RootBelow out of range", y, e, api.Rat{}, api.ErrRange)
	}
}
