package building

import (
	"slices"
	"strings"

	"putlog/api"
)

// Move returns the building with dx added to all X, and dy to all Y.
func Move(b api.Building, dx, dy int) (api.Building, api.Errno) {
	if e := Check(b); e != api.OK {
		return api.Building{}, e
	}
	const most = 2 * api.MaxPoint
	if dx < -most || dx > most || dy < -most || dy > most {
		return api.Building{}, api.ErrRange
	}
	out := moved(b, func(p api.Point) api.Point { return api.Point{X: p.X + dx, Y: p.Y + dy} })
	// A movement breaks nothing but the range of the coordinates.
	if e := Check(out); e != api.OK {
		return api.Building{}, e
	}
	return out, api.OK
}

// Turn returns the building with each point (X, Y) moved to (-Y, X).
func Turn(b api.Building) (api.Building, api.Errno) {
	if e := Check(b); e != api.OK {
		return api.Building{}, e
	}
	return moved(b, func(p api.Point) api.Point { return api.Point{X: -p.Y, Y: p.X} }), api.OK
}

// moved returns the building with all its points moved.
func moved(b api.Building, move func(api.Point) api.Point) api.Building {
	out := api.Building{Name: strings.Clone(b.Name), Roof: b.Roof, Openings: slices.Clone(b.Openings)}
	for _, s := range b.Storeys {
		outline := make([]api.Point, len(s.Outline))
		for i, p := range s.Outline {
			outline[i] = move(p)
		}
		out.Storeys = append(out.Storeys, api.Storey{Floor: s.Floor, Outline: outline})
	}
	for _, x := range b.Boxes {
		p, q := move(api.Point{X: x.X1, Y: x.Y1}), move(api.Point{X: x.X2, Y: x.Y2})
		x.X1, x.X2 = min(p.X, q.X), max(p.X, q.X)
		x.Y1, x.Y2 = min(p.Y, q.Y), max(p.Y, q.Y)
		out.Boxes = append(out.Boxes, x)
	}
	return out
}
