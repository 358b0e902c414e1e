package layout

import (
	"putlog/api"
	"putlog/building"
)

// CheckRing accepts a building and a system round it.
func CheckRing(b api.Building, s api.System) api.Errno {
	_, e := ringOf(b, s)
	return e
}

// RunLength returns the length of the run of a facade with the choices for its corners.
func RunLength(b api.Building, s api.System, facade, begin, end int) (int, api.Errno) {
	r, e := ringWithRun(b, s, facade, begin, end)
	if e != api.OK {
		return 0, e
	}
	return r.length(facade, begin, end), api.OK
}

// RunStart returns the start of the run of a facade with the choice for the corner where it begins.
func RunStart(b api.Building, s api.System, facade, begin int) (api.Point, api.Errno) {
	r, e := ringWithRun(b, s, facade, begin)
	if e != api.OK {
		return api.Point{}, e
	}
	return r.start(facade, begin), api.OK
}

// Lifts returns the heights of the decks.
func Lifts(b api.Building, s api.System) ([]int, api.Errno) {
	r, e := ringOf(b, s)
	if e != api.OK {
		return nil, e
	}
	return r.decks(), api.OK
}

// A ring is the places of the runs along the walls of the lowest storey.
type ring struct {
	system  api.System
	walls   []api.Wall
	corners []int // 1 for outer ones, -1 for inner ones
	levels  []int
}

// ringOf returns the ring of a building and a system, or the error of CheckRing.
func ringOf(b api.Building, s api.System) (ring, api.Errno) {
	if e := building.Check(b); e != api.OK {
		return ring{}, e
	}
	if e := CheckSystem(s); e != api.OK {
		return ring{}, e
	}
	switch {
	case b.Roof < s.Lift:
		return ring{}, api.ErrRange
	case b.Roof/s.Lift > api.MaxLifts:
		return ring{}, api.ErrLarge
	}
	outline := b.Storeys[0].Outline
	for _, d := range []int{s.Gap, s.Gap + s.Width} {
		if _, e := building.Offset(outline, d); e != api.OK {
			return ring{}, api.ErrClash
		}
	}
	r := ring{system: s, levels: levels(s.Lift, b.Roof)}
	r.walls, _ = building.Walls(outline)
	r.corners, _ = building.Corners(outline)
	if r.clashes(b.Boxes) {
		return ring{}, api.ErrClash
	}
	return r, api.OK
}

// levels returns the heights of the ground, of the decks and of the top frame.
func levels(lift, roof int) []int {
	var out []int
	for z := 0; z <= roof+lift; z += lift {
		out = append(out, z)
	}
	return out
}

// ringWithRun returns the ring, or its error, or that of a facade and of choices.
func ringWithRun(b api.Building, s api.System, facade int, choices ...int) (ring, api.Errno) {
	r, e := ringOf(b, s)
	if e != api.OK {
		return ring{}, e
	}
	if !r.has(facade) {
		return ring{}, api.ErrMissing
	}
	return r, choicesError(choices)
}

// choicesError is the error of choices for corners.
func choicesError(l []int) api.Errno {
	for _, c := range l {
		if c != 0 && c != 1 {
			return api.ErrRange
		}
	}
	return api.OK
}

// clashes reports whether a run that has both of its corners overlaps a box.
func (r ring) clashes(boxes []api.Box) bool {
	for i := range r.walls {
		run := r.box(i, 1, 0)
		for _, x := range boxes {
			if is, _ := building.Overlap(run, x); is {
				return true
			}
		}
	}
	return false
}

// has reports whether there is a facade with a number.
func (r ring) has(facade int) bool { return facade >= 0 && facade < len(r.walls) }

// decks returns the heights of the decks.
func (r ring) decks() []int { return r.levels[1 : len(r.levels)-1] }

// overhang returns how far the run of a facade reaches beyond its end at a corner that it has, or has not.
func (r ring) overhang(corner int, has bool) int {
	outer := r.corners[corner%len(r.corners)] > 0
	switch {
	case outer && has:
		return r.system.Gap + r.system.Width
	case outer:
		return r.system.Gap
	case has:
		return -r.system.Gap
	}
	return -r.system.Gap - r.system.Width
}

// from returns where the run of a facade begins along it, with a choice for its first corner.
func (r ring) from(facade, begin int) int { return -r.overhang(facade, begin == 1) }

// to returns where the run of a facade ends along it, with a choice for its last corner: 0 gives it the corner.
func (r ring) to(facade, end int) int { return r.walls[facade].Length + r.overhang(facade+1, end == 0) }

// length is RunLength without its errors.
func (r ring) length(facade, begin, end int) int { return r.to(facade, end) - r.from(facade, begin) }

// start is RunStart without its errors.
func (r ring) start(facade, begin int) api.Point {
	return r.place(facade, r.from(facade, begin), r.inner())
}

// inner and outer return how far to the right of a facade the edges of its run are.
func (r ring) inner() int { return r.system.Gap }
func (r ring) outer() int { return r.system.Gap + r.system.Width }

// place returns the point so far along a facade, and so far to its right.
func (r ring) place(facade, along, right int) api.Point {
	steps := [4]api.Point{{X: 1}, {Y: 1}, {X: -1}, {Y: -1}} // the four directions, counterclockwise
	w := r.walls[facade]
	on, aside := steps[w.Dir], steps[(w.Dir+3)%len(steps)]
	return api.Point{X: w.From.X + along*on.X + right*aside.X, Y: w.From.Y + along*on.Y + right*aside.Y}
}

// box returns the box that the run of a facade fills.
func (r ring) box(facade, begin, end int) api.Box {
	p := r.place(facade, r.from(facade, begin), r.inner())
	q := r.place(facade, r.to(facade, end), r.outer())
	return api.Box{
		X1: min(p.X, q.X), Y1: min(p.Y, q.Y), Z1: 0,
		X2: max(p.X, q.X), Y2: max(p.Y, q.Y), Z2: r.levels[len(r.levels)-1],
	}
}
