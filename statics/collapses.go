package statics

import (
	"putlog/api"
	"putlog/exact"
)

// maxLimited is how many bars a frame may have whose limit load is looked for.
const maxLimited = 20

// LimitLoad returns a collapse of a frame under loads.
func LimitLoad(f api.Frame, l []api.Load, limits []api.Range) (api.Collapse, api.Errno) {
	if e := limitedError(f, l, limits); e != api.OK {
		return api.Collapse{}, e
	}
	if len(f.Bars) > maxLimited {
		return api.Collapse{}, api.ErrLarge
	}
	p := loadVector(f, l)
	if supportsTake(f, p) {
		return api.Collapse{}, api.ErrNone
	}
	if u := movedBy(f, p); u != nil {
		return api.Collapse{Factor: exact.Whole(0), Forces: zeros(elements(f)), Motion: u}, api.OK
	}
	return collapse(f, p, limits), api.OK
}

// CheckCollapse accepts any collapse of a frame under loads.
func CheckCollapse(f api.Frame, l []api.Load, limits []api.Range, c api.Collapse) api.Errno {
	if e := limitedError(f, l, limits); e != api.OK {
		return e
	}
	p := wholeVector(loadVector(f, l))
	right := isBalanced(f, c.Forces, p.times(exact.Normal(c.Factor))) && firstBeyond(c.Forces, limits) < 0 &&
		isMoved(f, c.Motion, p) && exact.Cmp(c.Factor, resistance(f, limits, vectorOf(c.Motion))) == 0
	if !right {
		return api.ErrProof
	}
	return api.OK
}

// limitedError returns the error of a frame, of loads, or of limits.
func limitedError(f api.Frame, l []api.Load, limits []api.Range) api.Errno {
	if e := CheckLoads(f, l); e != api.OK {
		return e
	}
	return limitsError(f, limits)
}

// resistance returns the greatest work of forces within limits on the lengthenings of a motion.
func resistance(f api.Frame, limits []api.Range, u vector) api.Rat {
	sum := exact.Whole(0)
	for i, b := range f.Bars {
		by := api.Rat{Num: lengthening(f, b, u), Den: u.den}
		most := exact.Mul(limits[i].High, by)
		if least := exact.Mul(limits[i].Low, by); exact.Cmp(least, most) > 0 {
			most = least
		}
		sum = exact.Add(sum, most)
	}
	return sum
}

// supportsTake reports whether a load vector is 0 at all places without a support.
func supportsTake(f api.Frame, p []int) bool {
	for _, i := range loosePlaces(f) {
		if p[i] != 0 {
			return false
		}
	}
	return true
}

// collapse is LimitLoad for loads that are carried, but not by the supports alone.
//
// All forces of the bars that carry a multiple of the loads are sums of some lists, each one times an amount
// that is not negative. A program finds the amounts that keep the limits with the greatest factor. Its dual
// values do no work on lists that carry nothing. So there is a motion that lengthens each bar by as much.
func collapse(f api.Frame, p []int, limits []api.Range) api.Collapse {
	ways := waysToCarry(f, p)
	best, _ := exact.Optimize(limitProgram(ways, limits))
	amounts := vectorOf(best.X)
	bars, by := make([]api.Rat, len(f.Bars)), make([]api.Rat, len(f.Bars))
	for i := range f.Bars {
		bars[i] = product(amounts, vectorOf(forcesIn(ways, i)))
		by[i] = exact.Sub(best.Y[i], best.Y[len(f.Bars)+i])
	}
	return api.Collapse{
		Factor: best.Value,
		Forces: withSupports(f, vectorOf(bars), wholeVector(p).times(best.Value)).fractions(),
		Motion: motionWith(f, p, by, ways[len(ways)-1][:len(f.Bars)]),
	}
}

// waysToCarry returns lists of forces of the bars, each with a factor behind them: those that carry
// nothing in both directions, with the factor 0, and last one that carries the loads, with the factor 1.
func waysToCarry(f api.Frame, p []int) [][]api.Rat {
	m := loosePart(f)
	for k, i := range loosePlaces(f) {
		m[k] = append(m[k], exact.Whole(p[i]))
	}
	basis, _ := exact.Kernel(m)
	last := len(basis) - 1
	var out [][]api.Rat
	for _, x := range basis[:last] {
		out = append(out, x, scaled(x, exact.Whole(-1)))
	}
	return append(out, basis[last])
}

// limitProgram is to maximize the factor of a combination of ways that keeps the limits. Its rows are the
// high limits of all bars, then the low ones. It begins at 0, which the limits contain.
func limitProgram(ways [][]api.Rat, limits []api.Range) api.Program {
	var out api.Program
	for i, r := range limits {
		out.A, out.B = append(out.A, forcesIn(ways, i)), append(out.B, r.High)
	}
	for i, r := range limits {
		out.A, out.B = append(out.A, scaled(forcesIn(ways, i), exact.Whole(-1))), append(out.B, opposite(r.Low))
	}
	out.C = forcesIn(ways, len(limits))
	return out
}

// forcesIn returns the element i of each way.
func forcesIn(ways [][]api.Rat, i int) []api.Rat {
	out := make([]api.Rat, len(ways))
	for j, way := range ways {
		out[j] = way[i]
	}
	return out
}

// motionWith returns a motion on which the loads do the work 1, and whose lengthenings are those of by,
// divided by the work of forces that carry the loads. This work is 1, or greater if the factor is 0.
func motionWith(f api.Frame, p []int, by, carrying []api.Rat) []api.Rat {
	loose := loosePlaces(f)
	loads := make([]api.Rat, len(loose))
	for k, i := range loose {
		loads[k] = exact.Whole(p[i])
	}
	work := product(vectorOf(by), vectorOf(carrying))
	right := append(scaled(by, over(exact.Whole(1), work)), exact.Whole(1))
	s, _ := exact.Solve(append(lengthenings(f), loads), right)
	return spread(s.X, loose, places(f))
}
