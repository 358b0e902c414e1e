package holding

import (
	"slices"

	"putlog/api"
	"putlog/exact"
)

// Bound returns weights of the demands with the greatest sum, and the sum.
func Bound(g api.Grid, r api.TieRule, l []api.Tie) ([]api.Rat, api.Rat, api.Errno) {
	d, e := Demands(g, r, l)
	if e != api.OK {
		return nil, api.Rat{}, e
	}
	kept := essential(d)
	switch {
	case len(kept) > api.MaxMatrix || len(l) > api.MaxMatrix:
		return nil, api.Rat{}, api.ErrLarge
	case slices.ContainsFunc(d, hasNoPlaces):
		return nil, api.Rat{}, api.ErrHeld
	}
	best, _ := exact.Optimize(weighing(d, kept, len(l)))
	// Any other demand has all places of a kept one, so that weight on it is as good on that one.
	w := make([]api.Rat, len(d))
	for i := range w {
		w[i] = exact.Whole(0)
	}
	for k, i := range kept {
		w[i] = best.X[k]
	}
	return w, best.Value, api.OK
}

func hasNoPlaces(d api.Demand) bool { return len(d.Places) == 0 }

// weighing is to maximize the sum of the weights of the demands with the numbers kept. It has a row for each place.
func weighing(d []api.Demand, kept []int, places int) api.Program {
	var out api.Program
	for p := range places {
		row := make([]api.Rat, len(kept))
		for k, i := range kept {
			if slices.Contains(d[i].Places, p) {
				row[k] = exact.Whole(1)
			}
		}
		out.A, out.B = append(out.A, row), append(out.B, exact.Whole(1))
	}
	for range kept {
		out.C = append(out.C, exact.Whole(1))
	}
	return out
}

// CheckBound returns the sum of weights of demands over so many places.
func CheckBound(d []api.Demand, places int, w []api.Rat) (api.Rat, api.Errno) {
	if !areFrom(0, maxTies, places) {
		return api.Rat{}, api.ErrRange
	}
	if e := demandsError(d, places); e != api.OK {
		return api.Rat{}, e
	}
	if len(w) != len(d) {
		return api.Rat{}, api.ErrShape
	}
	nums, den := sharedTerms(w)
	if !areWeights(d, places, nums, den) {
		return api.Rat{}, api.ErrProof
	}
	sum := api.Int{}
	for _, n := range nums {
		sum = exact.Sum(sum, n)
	}
	return exact.Normal(api.Rat{Num: sum, Den: den}), api.OK
}

// sharedTerms returns fractions as numerators over one positive denominator: the sums for all places are
// then sums of integers.
func sharedTerms(w []api.Rat) (nums []api.Int, den api.Int) {
	den = exact.Of(1)
	normal := make([]api.Rat, len(w))
	for i, x := range w {
		normal[i] = exact.Normal(x)
		den = exact.Prod(den, exact.Normal(api.Rat{Num: den, Den: normal[i].Den}).Den)
	}
	for _, x := range normal {
		factor, _, _ := exact.Divide(den, x.Den)
		nums = append(nums, exact.Prod(x.Num, factor))
	}
	return nums, den
}

// areWeights reports whether no numerator is negative, and those of the demands of no place add up to more
// than the denominator.
func areWeights(d []api.Demand, places int, nums []api.Int, den api.Int) bool {
	sums := make([]api.Int, places)
	for i, n := range nums {
		if n.Neg {
			return false
		}
		for _, p := range d[i].Places {
			sums[p] = exact.Sum(sums[p], n)
		}
	}
	return !slices.ContainsFunc(sums, func(n api.Int) bool { return exact.CmpInt(n, den) > 0 })
}
