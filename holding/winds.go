package holding

import (
	"slices"

	"putlog/api"
)

// Shares returns the share of each tie in a wind.
func Shares(g api.Grid, ties []api.Tie, wind []int) ([]int, api.Errno) {
	if e := CheckGrid(g); e != api.OK {
		return nil, e
	}
	if e := tiesError(g, ties); e != api.OK {
		return nil, e
	}
	switch {
	case len(wind) != len(g.Along)*len(g.Levels):
		return nil, api.ErrShape
	case !areFrom(0, api.MaxCount, wind...):
		return nil, api.ErrRange
	case len(ties) == 0:
		return nil, api.ErrNone
	}
	out := make([]int, len(ties))
	for n, force := range wind {
		at := api.Tie{Standard: n / len(g.Levels), Level: n % len(g.Levels)}
		out[nearest(g, ties, at)] += force
	}
	return out, api.OK
}

// nearest returns the number of the first tie that is nearest to a place of the grid.
func nearest(g api.Grid, ties []api.Tie, at api.Tie) int {
	best := 0
	for i, t := range ties {
		if way(g, t, at) < way(g, ties[best], at) {
			best = i
		}
	}
	return best
}

// way returns the distance along the facade and in height between two places of the grid.
func way(g api.Grid, t, u api.Tie) int {
	return distance(g.Along[t.Standard], g.Along[u.Standard]) + distance(g.Levels[t.Level], g.Levels[u.Level])
}

// Anchored returns the number of the first tie whose share is greater than its strength, or -1.
func Anchored(g api.Grid, r api.TieRule, ties []api.Tie, wind []int) (int, api.Errno) {
	if e := rulesError(g, r); e != api.OK {
		return 0, e
	}
	shares, e := Shares(g, ties, wind)
	if e != api.OK {
		return 0, e
	}
	return slices.IndexFunc(shares, func(force int) bool { return force > r.Strength }), api.OK
}
