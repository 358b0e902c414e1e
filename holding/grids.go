package holding

import (
	"cmp"
	"slices"

	"putlog/api"
)

const (
	maxTies = api.MaxStandards * api.MaxLevels
	maxSkip = 10
)

// CheckGrid accepts grids.
func CheckGrid(g api.Grid) api.Errno {
	switch {
	case !areFrom(0, api.MaxCorners-1, g.Facade):
		return api.ErrRange
	case !areFrom(1, api.MaxStandards, len(g.Along)) || !areFrom(1, api.MaxLevels, len(g.Levels)):
		return api.ErrShape
	case !areFrom(-api.MaxCoord, api.MaxCoord, g.Along...) || !areFrom(1, api.MaxCoord, g.Levels...):
		return api.ErrRange
	case !ascend(g.Along, cmp.Compare[int]) || !ascend(g.Levels, cmp.Compare[int]):
		return api.ErrOrder
	}
	return api.OK
}

// CheckRule accepts rules of ties.
func CheckRule(r api.TieRule) api.Errno {
	if !areFrom(1, api.MaxCoord, r.Every) || !areFrom(0, api.MaxCoord, r.Free, r.Margin, r.Strength) || !areFrom(0, maxSkip, r.Skip) {
		return api.ErrRange
	}
	return api.OK
}

// rulesError returns the error of a grid, or of a rule.
func rulesError(g api.Grid, r api.TieRule) api.Errno {
	if e := CheckGrid(g); e != api.OK {
		return e
	}
	return CheckRule(r)
}

// tiesError returns the error of ties in a grid.
func tiesError(g api.Grid, l []api.Tie) api.Errno {
	isOutside := func(t api.Tie) bool {
		return !areFrom(0, len(g.Along)-1, t.Standard) || !areFrom(0, len(g.Levels)-1, t.Level)
	}
	switch {
	case len(l) > maxTies:
		return api.ErrLarge
	case slices.ContainsFunc(l, isOutside):
		return api.ErrMissing
	case !ascend(l, compareTies):
		return api.ErrOrder
	}
	return api.OK
}

func compareTies(t, u api.Tie) int {
	return cmp.Or(cmp.Compare(t.Standard, u.Standard), cmp.Compare(t.Level, u.Level))
}

// areFrom reports whether all of some numbers are from least to most.
func areFrom(least, most int, numbers ...int) bool {
	return !slices.ContainsFunc(numbers, func(n int) bool { return n < least || n > most })
}

// ascend reports whether each element of a list comes before the next one.
func ascend[T any](l []T, compare func(x, y T) int) bool {
	for i := 1; i < len(l); i++ {
		if compare(l[i-1], l[i]) >= 0 {
			return false
		}
	}
	return true
}

// distance returns how far x is from y.
func distance(x, y int) int { return max(x-y, y-x) }
