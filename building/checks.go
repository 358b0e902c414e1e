package building

import (
	"putlog/api"
	"putlog/spelling"
)

// Check accepts what is a building.
func Check(b api.Building) api.Errno {
	if !spelling.IsName(b.Name) {
		return api.ErrName
	}
	if len(b.Storeys) < 1 || len(b.Storeys) > api.MaxStoreys || len(b.Openings) > api.MaxOpenings || len(b.Boxes) > api.MaxBoxes {
		return api.ErrShape
	}
	for i := range b.Storeys {
		if e := storeyError(b.Storeys, i); e != api.OK {
			return e
		}
	}
	if b.Roof <= b.Storeys[len(b.Storeys)-1].Floor || b.Roof > api.MaxPoint {
		return api.ErrRange
	}
	for i := range b.Openings {
		if e := openingError(b, i); e != api.OK {
			return e
		}
	}
	for _, x := range b.Boxes {
		if e := CheckBox(x); e != api.OK {
			return e
		}
		if blocks(b, x) {
			return api.ErrClash
		}
	}
	return api.OK
}

// Top returns the top of a storey.
func Top(b api.Building, storey int) (int, api.Errno) {
	if e := Check(b); e != api.OK {
		return 0, e
	}
	if storey < 0 || storey >= len(b.Storeys) {
		return 0, api.ErrMissing
	}
	return top(b, storey), api.OK
}

// Volume returns the volume of the body.
func Volume(b api.Building) (int, api.Errno) {
	if e := Check(b); e != api.OK {
		return 0, e
	}
	sum := 0
	for i, s := range b.Storeys {
		sum += doubleArea(s.Outline) / 2 * (top(b, i) - s.Floor)
	}
	return sum, api.OK
}

// storeyError is the first error of storey i, where those below have none.
func storeyError(l []api.Storey, i int) api.Errno {
	s := l[i]
	if e := CheckOutline(s.Outline); e != api.OK {
		return e
	}
	if i == 0 {
		if s.Floor != 0 {
			return api.ErrOrder
		}
		return api.OK
	}
	if s.Floor <= l[i-1].Floor || s.Floor > api.MaxPoint {
		return api.ErrOrder
	}
	if !covers(l[i-1].Outline, s.Outline) {
		return api.ErrClash
	}
	return api.OK
}

// openingError is the first error of opening i, where the storeys and the earlier openings have none.
func openingError(b api.Building, i int) api.Errno {
	o := b.Openings[i]
	if o.Storey < 0 || o.Storey >= len(b.Storeys) || o.Wall < 0 || o.Wall >= len(b.Storeys[o.Storey].Outline) {
		return api.ErrMissing
	}
	height := top(b, o.Storey) - b.Storeys[o.Storey].Floor
	if o.From < 0 || o.From >= o.To || o.To > sideOf(b, o).Length || o.Bottom < 0 || o.Bottom >= o.Top || o.Top > height {
		return api.ErrRange
	}
	for _, p := range b.Openings[:i] {
		same := p.Storey == o.Storey && p.Wall == o.Wall
		if same && p.From < o.To && o.From < p.To && p.Bottom < o.Top && o.Bottom < p.Top {
			return api.ErrClash
		}
	}
	return api.OK
}

// top is Top without its errors.
func top(b api.Building, storey int) int {
	if storey == len(b.Storeys)-1 {
		return b.Roof
	}
	return b.Storeys[storey+1].Floor
}

// sideOf returns the side in which an opening is.
func sideOf(b api.Building, o api.Opening) api.Wall {
	return sideAt(b.Storeys[o.Storey].Outline, o.Wall)
}

// blocks reports whether the inside of a box has a point in common with the inside of the body.
func blocks(b api.Building, x api.Box) bool {
	for i, s := range b.Storeys {
		if s.Floor < x.Z2 && x.Z1 < top(b, i) {
			// The storeys above lie within this one.
			return overlap(s.Outline, ground(x))
		}
	}
	return false
}
