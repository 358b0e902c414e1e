package layout

import (
	"slices"

	"putlog/api"
)

// The greatest lengths of a system.
const (
	maxPart  = 10000
	maxWidth = 5000
	maxGap   = 5000
	maxLift  = 10000
)

// CheckSystem accepts what is a system.
func CheckSystem(s api.System) api.Errno {
	if len(s.Bays) < 1 || len(s.Bays) > api.MaxBays || len(s.Boards) > api.MaxBays {
		return api.ErrShape
	}
	if e := lengthsError(s.Bays, s.Boards); e != api.OK {
		return e
	}
	if s.Width < 1 || s.Width > maxWidth || s.Gap < 0 || s.Gap > maxGap || s.Lift < 1 || s.Lift > maxLift {
		return api.ErrRange
	}
	return api.OK
}

// Unit returns the greatest common divisor of the lengths of all bays and boards.
func Unit(s api.System) (int, api.Errno) {
	if e := CheckSystem(s); e != api.OK {
		return 0, e
	}
	return unit(s), api.OK
}

// lengthsError is the first error of the lists of lengths of a system.
func lengthsError(lists ...[]int) api.Errno {
	for _, l := range lists {
		if slices.ContainsFunc(l, func(n int) bool { return n < 1 || n > maxPart }) {
			return api.ErrRange
		}
	}
	for _, l := range lists {
		for i := 1; i < len(l); i++ {
			if l[i] <= l[i-1] {
				return api.ErrOrder
			}
		}
	}
	return api.OK
}

// unit is Unit without its errors.
func unit(s api.System) int {
	d := 0
	for _, n := range slices.Concat(s.Bays, s.Boards) {
		d = commonDivisor(d, n)
	}
	return d
}

// commonDivisor returns the greatest common divisor of two numbers that are not negative.
func commonDivisor(a, b int) int {
	for b != 0 {
		a, b = b, a%b
	}
	return a
}

// regular returns the length of the regular bay.
func regular(s api.System) int { return s.Bays[len(s.Bays)-1] }
