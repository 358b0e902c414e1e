package statics

import (
	"putlog/api"
	"putlog/exact"
)

const (
	maxSteps     = 100
	thousandths  = 1000
	mostStrength = api.MaxCount
)

// Interpolate returns the value of a table at x.
func Interpolate(t []api.Step, x api.Rat) (api.Rat, api.Errno) {
	if e := tableError(t); e != api.OK {
		return api.Rat{}, e
	}
	return valueAt(t, x), api.OK
}

func tableError(t []api.Step) api.Errno {
	switch {
	case len(t) == 0:
		return api.ErrNone
	case len(t) > maxSteps:
		return api.ErrLarge
	}
	for i, s := range t {
		if i > 0 && exact.Cmp(s.At, t[i-1].At) <= 0 {
			return api.ErrOrder
		}
	}
	return api.OK
}

// valueAt is Interpolate without its errors.
func valueAt(t []api.Step, x api.Rat) api.Rat {
	next := 0
	for next < len(t) && exact.Cmp(t[next].At, x) < 0 {
		next++
	}
	switch next {
	case 0:
		return exact.Normal(t[0].Value)
	case len(t):
		return exact.Normal(t[next-1].Value)
	}
	from, to := t[next-1], t[next]
	share := over(exact.Sub(x, from.At), exact.Sub(to.At, from.At))
	return exact.Add(from.Value, exact.Mul(share, exact.Sub(to.Value, from.Value)))
}

// Limit returns the greatest thousandth that a force density may be for a tension strength.
func Limit(square, strength int) (api.Rat, api.Errno) {
	if square < 1 || square > api.MaxSquare || strength < 0 || strength > mostStrength {
		return api.Rat{}, api.ErrRange
	}
	return limit(square, strength), api.OK
}

// limit is Limit without its errors: a number of thousandths is small enough if its square is at most
// that of a thousand strengths divided by the squared length, an int of at most 10^18.
func limit(square, strength int) api.Rat {
	most := thousandths * strength
	root, _ := exact.RootBelow(most*most/square, 1)
	return over(root, exact.Whole(thousandths))
}

// Limits returns the limits of the bars of a frame.
func Limits(f api.Frame, strengths []int, t []api.Step) ([]api.Range, api.Errno) {
	if e := Check(f); e != api.OK {
		return nil, e
	}
	if e := bucklingError(f, strengths, t); e != api.OK {
		return nil, e
	}
	var out []api.Range
	for i, b := range f.Bars {
		square := 0
		for _, d := range difference(f, b) {
			square += d * d
		}
		high := limit(square, strengths[i])
		low := opposite(exact.Mul(high, valueAt(t, exact.Whole(square))))
		out = append(out, api.Range{Low: low, High: high})
	}
	return out, api.OK
}

// bucklingError returns the error of strengths, or of a table of what is left of them in compression.
func bucklingError(f api.Frame, strengths []int, t []api.Step) api.Errno {
	if len(strengths) != len(f.Bars) {
		return api.ErrShape
	}
	for _, s := range strengths {
		if s < 0 || s > mostStrength {
			return api.ErrRange
		}
	}
	if e := tableError(t); e != api.OK {
		return e
	}
	for _, s := range t {
		if sign(s.Value) < 0 || exact.Cmp(s.Value, exact.Whole(1)) > 0 {
			return api.ErrRange
		}
	}
	return api.OK
}

// Strong returns the number of the first bar whose force density is not within its limits, or -1.
func Strong(f api.Frame, x []api.Rat, limits []api.Range) (int, api.Errno) {
	if e := forcesError(f, x); e != api.OK {
		return 0, e
	}
	if e := limitsError(f, limits); e != api.OK {
		return 0, e
	}
	return firstBeyond(x, limits), api.OK
}

// limitsError returns the error of limits.
func limitsError(f api.Frame, limits []api.Range) api.Errno {
	if len(limits) != len(f.Bars) {
		return api.ErrShape
	}
	for _, r := range limits {
		switch {
		case exact.Cmp(r.Low, r.High) > 0:
			return api.ErrOrder
		case sign(r.Low) > 0 || sign(r.High) < 0:
			return api.ErrRange
		}
	}
	return api.OK
}

// firstBeyond is Strong without its errors.
func firstBeyond(x []api.Rat, limits []api.Range) int {
	for i, r := range limits {
		if exact.Cmp(x[i], r.Low) < 0 || exact.Cmp(x[i], r.High) > 0 {
			return i
		}
	}
	return -1
}
