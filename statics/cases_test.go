package statics_test

import (
	"math"
	"math/big"
	"math/rand"
	"slices"
	"testing"

	"putlog/api"
	"putlog/statics"
)

// theCases are the load of the examples, its opposite, half of it, and a load that the supports take.
func theCases() [][]api.Load {
	return [][]api.Load{theLoad(), loads(load(2, 0, 0, 12)), loads(load(2, 0, 0, -4), load(2, 0, 0, -2)), loads(load(0, 1, 2, 3))}
}

// P5.6: the bracket under the cases.
func TestCasesOfBracket(t *testing.T) {
	l, e := statics.Influence(theBracket(), theCases(), 0)
	want(t, "Influence on the first bar", l, e, append(list(-3, 3), r(-3, 2), r(0, 1)), api.OK)
	l, e = statics.Influence(theBracket(), theCases(), 8)
	want(t, "Influence on the last support", l, e, list(0, 0, 0, 0), api.OK)
	worst, e := statics.Worst(theBracket(), theCases())
	down, up := []int{0, 2}, []int{1}
	right := []api.Envelope{
		{Range: limit(r(-9, 2), r(3, 1)), LowCases: down, HighCases: up},
		{Range: limit(r(-3, 1), r(9, 2)), LowCases: up, HighCases: down},
		{Range: limit(r(-10, 1), r(27, 2)), LowCases: []int{1, 3}, HighCases: down},
		{Range: limit(r(-2, 1), r(0, 1)), LowCases: []int{3}},
		{Range: limit(r(-3, 1), r(0, 1)), LowCases: []int{3}},
		{Range: limit(r(-27, 2), r(9, 1)), LowCases: down, HighCases: up},
		{Range: limit(r(0, 1), r(0, 1))},
		{Range: limit(r(-12, 1), r(18, 1)), LowCases: up, HighCases: down},
		{Range: limit(r(0, 1), r(0, 1))},
	}
	want(t, "Worst", worst, e, right, api.OK)
}

// someCases are so many cases that are carried.
func someCases(d *rand.Rand, f api.Frame, n int) [][]api.Load {
	out := [][]api.Load{}
	for range n {
		if d.Intn(4) == 0 {
			out = append(out, nil)
		} else {
			out = append(out, carriedLoads(d, f))
		}
	}
	return out
}

// envelopes are the ranges, by the sums over all sets of cases.
func envelopes(f api.Frame, cases [][]api.Load) []api.Envelope {
	forces := [][]*big.Rat{}
	for _, l := range cases {
		forces = append(forces, forcesOf(f, l))
	}
	out := []api.Envelope{}
	for i := range elements(f) {
		low, high := new(big.Rat), new(big.Rat)
		for set := range 1 << len(cases) {
			sum := new(big.Rat)
			for c, x := range forces {
				if set>>c&1 == 1 {
					sum.Add(sum, x[i])
				}
			}
			if sum.Cmp(low) < 0 {
				low = sum
			}
			if sum.Cmp(high) > 0 {
				high = sum
			}
		}
		v := api.Envelope{Range: limit(ratOf(low), ratOf(high))}
		for c, x := range forces {
			switch x[i].Sign() {
			case -1:
				v.LowCases = append(v.LowCases, c)
			case 1:
				v.HighCases = append(v.HighCases, c)
			}
		}
		out = append(out, v)
	}
	return out
}

// P5.6 and P5.12: ranges against all combinations of cases, and influences against the forces of each.
func TestCases(t *testing.T) {
	d := dice()
	for range 150 {
		f := someFrame(d, 5)
		cases := someCases(d, f, d.Intn(7))
		worst, e := statics.Worst(f, cases)
		want(t, "Worst", worst, e, envelopes(f, cases), api.OK)
		for i := range elements(f) {
			right := []*big.Rat{}
			for _, l := range cases {
				right = append(right, forcesOf(f, l)[i])
			}
			l, e := statics.Influence(f, cases, i)
			want(t, "Influence", l, e, ratsOf(right), api.OK)
		}
	}
}

// P5.6: what is refused, in this order.
func TestCasesErrors(t *testing.T) {
	tooMany := make([][]api.Load, 17)
	long := make([]api.Load, 201)
	beyond := loads(load(0, 1000001, 0, 0))
	f := withoutSupport(theBracket(), 6)
	sideways := loads(load(2, 0, 5, 0))
	for _, c := range []struct {
		what    string
		cases   [][]api.Load
		element int
		e       api.Errno
	}{
		{"17 cases", append(tooMany[:16:16], beyond), -1, api.ErrLarge},
		{"16 cases", tooMany[:16], 0, api.OK},
		{"201 loads", [][]api.Load{theLoad(), long}, 9, api.ErrLarge},
		{"no node", [][]api.Load{loads(load(3, 0, 0, 0)), long}, 9, api.ErrMissing},
		{"beyond", [][]api.Load{beyond, loads(load(3, 0, 0, 0))}, 9, api.ErrRange},
		{"no element", [][]api.Load{sideways}, 8, api.ErrMissing},
		{"an element before the first", [][]api.Load{sideways}, -1, api.ErrMissing},
		{"no element of any kind", nil, math.MaxInt, api.ErrMissing},
		{"not carried", [][]api.Load{theLoad(), sideways}, 0, api.ErrLoose},
		{"the first not carried", [][]api.Load{sideways, theLoad()}, 7, api.ErrLoose},
		{"not carried, but in sum", [][]api.Load{sideways, loads(load(2, 0, -5, 0))}, 0, api.ErrLoose},
		{"no case", nil, 0, api.OK},
	} {
		l, e := statics.Influence(f, c.cases, c.element)
		wantError(t, c.what, e, c.e)
		if len(l) != len(c.cases) && e == api.OK || len(l) > 0 && e != api.OK {
			t.Errorf("%s: %v", c.what, l)
		}
		if slices.Contains([]api.Errno{api.OK, api.ErrMissing}, e) && c.what != "no node" {
			continue
		}
		worst, e := statics.Worst(f, c.cases)
		want(t, c.what+", Worst", worst, e, nil2(), c.e)
	}
	nothing := []api.Envelope{}
	for range 9 {
		nothing = append(nothing, api.Envelope{Range: limit(r(0, 1), r(0, 1))})
	}
	worst, e := statics.Worst(theBracket(), nil)
	want(t, "Worst of no case", worst, e, nothing, api.OK)
	worst, e = statics.Worst(api.Frame{}, make([][]api.Load, 16))
	want(t, "Worst of no elements", worst, e, nil2(), api.OK)
}

// P5.6: the most cases on a frame with 60 free directions, and more columns than package exact takes.
func TestCasesOfBigFrame(t *testing.T) {
	d := dice()
	f := bigFrame(d, 5)
	cases := [][]api.Load{}
	for range 16 {
		cases = append(cases, someLoads(d, f, 5))
	}
	worst, e := statics.Worst(f, cases)
	wantError(t, "Worst", e, api.OK)
	low, high := make([]*big.Rat, elements(f)), make([]*big.Rat, elements(f))
	for i := range elements(f) {
		low[i], high[i] = new(big.Rat), new(big.Rat)
	}
	for _, l := range cases {
		u, x, e := statics.Displace(f, l)
		wantError(t, "Displace", e, api.OK)
		wantDisplaced(t, f, l, values(u), values(x))
		for i, y := range values(x) {
			if y.Sign() < 0 {
				low[i].Add(low[i], y)
			} else {
				high[i].Add(high[i], y)
			}
		}
	}
	for i, v := range worst {
		want(t, "the range", v.Range, 0, limit(ratOf(low[i]), ratOf(high[i])), 0)
	}
	x, e := statics.Forces(f, cases[15])
	l, g := statics.Influence(f, cases, 77)
	want(t, "Influence", l[15], g, x[77], e)
}
