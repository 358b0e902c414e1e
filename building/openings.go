package building

import "putlog/api"

// Windows returns the openings that are in the plane of a facade.
func Windows(b api.Building, wall int) ([]api.Window, api.Errno) {
	if e := Check(b); e != api.OK {
		return nil, e
	}
	facade, e := facadeOf(b, wall)
	if e != api.OK {
		return nil, e
	}
	var out []api.Window
	for i, o := range b.Openings {
		side := sideOf(b, o)
		begin, left := measure(facade, side.From)
		if side.Dir != facade.Dir || left != 0 {
			continue
		}
		floor := b.Storeys[o.Storey].Floor
		out = append(out, api.Window{From: begin + o.From, To: begin + o.To, Bottom: floor + o.Bottom, Top: floor + o.Top, Number: i})
	}
	return out, api.OK
}

// OpeningAt returns the number of the first opening that has p strictly within, or -1.
func OpeningAt(b api.Building, p api.Node) (int, api.Errno) {
	if e := Check(b); e != api.OK {
		return 0, e
	}
	if e := nodeError(p); e != api.OK {
		return 0, e
	}
	for i, o := range b.Openings {
		along, left := measure(sideOf(b, o), api.Point{X: p.X, Y: p.Y})
		up := p.Z - b.Storeys[o.Storey].Floor
		if left == 0 && o.From < along && along < o.To && o.Bottom < up && up < o.Top {
			return i, api.OK
		}
	}
	return -1, api.OK
}
