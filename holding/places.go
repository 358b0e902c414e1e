package holding

import (
	"slices"

	"putlog/api"
	"putlog/building"
)

// maxStride is the greatest number of a pattern.
const maxStride = 30

// Possible returns all places of ties that are on the wall and not near an opening.
func Possible(b api.Building, g api.Grid, r api.TieRule) ([]api.Tie, api.Errno) {
	if e := building.Check(b); e != api.OK {
		return nil, e
	}
	if e := rulesError(g, r); e != api.OK {
		return nil, e
	}
	windows, e := building.Windows(b, g.Facade)
	if e != api.OK {
		return nil, e
	}
	// Each question for a depth checks the building again, which is quicker without what does not matter to it.
	b.Openings, b.Boxes = nil, nil
	var out []api.Tie
	for i, along := range g.Along {
		for k, height := range g.Levels {
			if !isNear(windows, r.Margin, along, height) && isOnWall(b, g.Facade, along, height) {
				out = append(out, api.Tie{Standard: i, Level: k})
			}
		}
	}
	return out, api.OK
}

// isNear reports whether a place of a facade is less than the margin away from an opening.
func isNear(windows []api.Window, margin, along, height int) bool {
	return slices.ContainsFunc(windows, func(w api.Window) bool {
		return w.From-margin < along && along < w.To+margin && w.Bottom-margin < height && height < w.Top+margin
	})
}

// isOnWall reports whether the building begins at a place of a facade.
func isOnWall(b api.Building, facade, along, height int) bool {
	depth, e := building.Depth(b, facade, along, height)
	return e == api.OK && depth == 0
}

// Select returns the ties of a pattern.
func Select(g api.Grid, p api.Pattern) ([]api.Tie, api.Errno) {
	if e := CheckGrid(g); e != api.OK {
		return nil, e
	}
	if !areFrom(1, maxStride, p.Step, p.Rise) || !areFrom(0, maxStride, p.Shift) {
		return nil, api.ErrRange
	}
	var out []api.Tie
	for i := range g.Along {
		for row := range len(g.Levels) / p.Rise {
			if i%p.Step == row*p.Shift%p.Step {
				out = append(out, api.Tie{Standard: i, Level: (row+1)*p.Rise - 1})
			}
		}
	}
	return out, api.OK
}
