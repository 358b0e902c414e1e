package layout

import (
	"cmp"
	"slices"

	"putlog/api"
)

// Less reports whether a is less than b.
func Less(a, b api.Cost) bool {
	if a.Odd != b.Odd {
		return a.Odd < b.Odd
	}
	return a.Bays < b.Bays
}

// Length returns the length of a closing.
func Length(s api.System, c api.Closing) (int, api.Errno) {
	if e := systemAndClosingError(s, c); e != api.OK {
		return 0, e
	}
	return lengthOf(c), api.OK
}

// CostOf returns the cost of a closing.
func CostOf(s api.System, c api.Closing) (api.Cost, api.Errno) {
	if e := systemAndClosingError(s, c); e != api.OK {
		return api.Cost{}, e
	}
	return costOf(s, c), api.OK
}

// CheckClosing accepts a closing of the length.
func CheckClosing(s api.System, length int, c api.Closing) api.Errno {
	if e := systemAndClosingError(s, c); e != api.OK {
		return e
	}
	if lengthOf(c) != length {
		return api.ErrProof
	}
	return api.OK
}

// Close returns a closing of the length of the least cost.
func Close(s api.System, length int) (api.Closing, api.Errno) {
	t, e := tableUpTo(s, length)
	if e != api.OK {
		return api.Closing{}, e
	}
	if t.code(length) == unclosed {
		return api.Closing{}, api.ErrGap
	}
	return t.closing(length), api.OK
}

func systemAndClosingError(s api.System, c api.Closing) api.Errno {
	if e := CheckSystem(s); e != api.OK {
		return e
	}
	return closingError(s, c)
}

// closingError is the error of a closing.
func closingError(s api.System, c api.Closing) api.Errno {
	switch {
	case len(c.Bays) > api.MaxTable || len(c.Boards) > api.MaxTable:
		return api.ErrLarge
	case !contains(s.Bays, c.Bays) || !contains(s.Boards, c.Boards):
		return api.ErrMissing
	case !descends(c.Bays) || !descends(c.Boards):
		return api.ErrOrder
	}
	return api.OK
}

// contains reports whether all lengths of a list are in another one.
func contains(all, l []int) bool {
	foreign := func(n int) bool { return !slices.Contains(all, n) }
	return !slices.ContainsFunc(l, foreign)
}

func descends(l []int) bool { return slices.IsSortedFunc(l, falling) }

// falling compares lengths for a list that descends.
func falling(a, b int) int { return cmp.Compare(b, a) }

// lengthOf is Length without its errors.
func lengthOf(c api.Closing) int {
	sum := 0
	for _, n := range c.Bays {
		sum += n
	}
	for _, n := range c.Boards {
		sum += n
	}
	return sum
}

// costOf is CostOf without its errors.
func costOf(s api.System, c api.Closing) api.Cost {
	out := api.Cost{Odd: len(c.Boards), Bays: len(c.Bays)}
	for _, n := range c.Bays {
		if n != regular(s) {
			out.Odd++
		}
	}
	return out
}
