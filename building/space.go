package building

import "putlog/api"

// Blocks reports whether the inside of a box has a point in common with the inside of the body.
func Blocks(b api.Building, x api.Box) (bool, api.Errno) {
	if e := buildingAndBoxError(b, x); e != api.OK {
		return false, e
	}
	return blocks(b, x), api.OK
}

// Forbidden returns the number of the first forbidden box that overlaps with x, or -1.
func Forbidden(b api.Building, x api.Box) (int, api.Errno) {
	if e := buildingAndBoxError(b, x); e != api.OK {
		return 0, e
	}
	for i, y := range b.Boxes {
		if CheckBox(common(x, y)) == api.OK {
			return i, api.OK
		}
	}
	return -1, api.OK
}

// Depth returns how far inwards from a place of a facade the storey at a height begins, or -1.
func Depth(b api.Building, wall, along, z int) (int, api.Errno) {
	if e := Check(b); e != api.OK {
		return 0, e
	}
	facade, e := facadeOf(b, wall)
	if e != api.OK {
		return 0, e
	}
	if along < 0 || along > facade.Length || z < 0 || z >= b.Roof {
		return 0, api.ErrRange
	}
	depth := -1
	for _, side := range sides(storeyAt(b, z).Outline) {
		if d := ahead(facade, along, side); d >= 0 && (depth < 0 || d < depth) {
			depth = d
		}
	}
	return depth, api.OK
}

func buildingAndBoxError(b api.Building, x api.Box) api.Errno {
	if e := Check(b); e != api.OK {
		return e
	}
	return CheckBox(x)
}

// facadeOf returns the facade with a number.
func facadeOf(b api.Building, wall int) (api.Wall, api.Errno) {
	l := b.Storeys[0].Outline
	if wall < 0 || wall >= len(l) {
		return api.Wall{}, api.ErrMissing
	}
	return sideAt(l, wall), api.OK
}

// storeyAt returns the storey at the height z, which is not negative.
func storeyAt(b api.Building, z int) api.Storey {
	s := b.Storeys[0]
	for _, t := range b.Storeys {
		if t.Floor <= z {
			s = t
		}
	}
	return s
}

// ahead returns how far inwards from a place of a facade a side is reached, or -1. The region is reached
// at a side: the place is on a side of the lowest outline, so it is not inside of one above.
func ahead(facade api.Wall, along int, side api.Wall) int {
	a, near := measure(facade, side.From)
	b, far := measure(facade, side.To)
	if along < min(a, b) || along > max(a, b) || max(near, far) < 0 {
		return -1
	}
	return max(min(near, far), 0)
}
