package holding

import (
	"slices"

	"putlog/api"
	"putlog/exact"
)

const (
	maxBoards = 20
	unitArea  = 10000 // the square millimetres of a pressure
)

// Pressure returns the pressure of a load on a sole.
func Pressure(load int, s api.Sole) (api.Rat, api.Errno) {
	if !areFrom(0, api.MaxCount, load) {
		return api.Rat{}, api.ErrRange
	}
	if e := soleError(s); e != api.OK {
		return api.Rat{}, e
	}
	return exact.Ratio(load*unitArea, s.Length*s.Width)
}

// Carries reports whether the pressure of a load on a sole is at most the bearing.
func Carries(load, bearing int, s api.Sole) (bool, api.Errno) {
	if !areFrom(0, api.MaxCount, load) || !areFrom(1, api.MaxCount, bearing) {
		return false, api.ErrRange
	}
	if e := soleError(s); e != api.OK {
		return false, e
	}
	return carries(load, bearing, s), api.OK
}

func soleError(s api.Sole) api.Errno {
	if !areFrom(1, maxExtent, s.Length, s.Width) {
		return api.ErrRange
	}
	return api.OK
}

// carries is Carries without its errors.
func carries(load, bearing int, s api.Sole) bool {
	return load*unitArea <= bearing*s.Length*s.Width
}

// Soles returns for each standard the number of the first board that carries its load and lies on its step.
func Soles(g api.Grid, l []api.Ground, loads []int, boards []api.Sole) ([]int, api.Errno) {
	if e := groundsError(g, l); e != api.OK {
		return nil, e
	}
	if e := boardsError(g, loads, boards); e != api.OK {
		return nil, e
	}
	steps, e := stepsUnder(g, l)
	if e != api.OK {
		return nil, e
	}
	var out []int
	for i, x := range g.Along {
		board := slices.IndexFunc(boards, func(s api.Sole) bool {
			return carries(loads[i], steps[i].Bearing, s) && liesOn(steps[i], x, s)
		})
		if board < 0 {
			return nil, api.ErrGround
		}
		out = append(out, board)
	}
	return out, api.OK
}

// boardsError returns the error of the loads of a grid, or of the boards for them.
func boardsError(g api.Grid, loads []int, boards []api.Sole) api.Errno {
	switch {
	case len(loads) != len(g.Along):
		return api.ErrShape
	case !areFrom(0, api.MaxCount, loads...):
		return api.ErrRange
	case !areFrom(1, maxBoards, len(boards)):
		return api.ErrShape
	}
	for _, s := range boards {
		if e := soleError(s); e != api.OK {
			return e
		}
	}
	return api.OK
}

// liesOn reports whether a board under a standard at x lies on a step. Lengths are doubled, as half a board
// may end between two millimetres.
func liesOn(s api.Ground, x int, board api.Sole) bool {
	return 2*s.From <= 2*x-board.Length && 2*x+board.Length <= 2*s.To
}
