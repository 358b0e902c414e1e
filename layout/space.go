package layout

import "putlog/api"

// Boxes returns the boxes that the runs fill, but for empty ones.
func Boxes(b api.Building, s api.System, l api.Layout) ([]api.Box, api.Errno) {
	r, e := ringWithLayout(b, s, l)
	if e != api.OK {
		return nil, e
	}
	var out []api.Box
	for i, run := range l.Runs {
		if run.Length > 0 {
			out = append(out, r.box(i, l.Corners[i], l.Corners[(i+1)%len(l.Corners)]))
		}
	}
	return out, api.OK
}

// Grid returns the boundaries of the parts of a facade's run, and the heights of the decks.
func Grid(b api.Building, s api.System, l api.Layout, facade int) (api.Grid, api.Errno) {
	r, e := ringWithLayout(b, s, l)
	if e != api.OK {
		return api.Grid{}, e
	}
	if !r.has(facade) {
		return api.Grid{}, api.ErrMissing
	}
	return api.Grid{Facade: facade, Along: r.boundaries(l, facade), Levels: r.decks()}, api.OK
}

// boundaries returns the places along a facade where the parts of its run begin and end.
func (r ring) boundaries(l api.Layout, facade int) []int {
	at := r.from(facade, l.Corners[facade])
	out := []int{at}
	c := l.Runs[facade].Close
	for _, lengths := range [][]int{c.Bays, c.Boards} {
		for _, n := range lengths {
			at += n
			out = append(out, at)
		}
	}
	return out
}
