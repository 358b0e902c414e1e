package building

import "putlog/api"

// CheckOutline accepts valid outlines.
func CheckOutline(l []api.Point) api.Errno {
	if len(l) < 4 || len(l) > api.MaxCorners {
		return api.ErrShape
	}
	for _, p := range l {
		if e := placeError(p); e != api.OK {
			return e
		}
	}
	w := sides(l)
	switch {
	case !alternate(w):
		return api.ErrForm
	case touch(w):
		return api.ErrClash
	case doubleArea(l) < 0:
		return api.ErrOrder
	}
	return api.OK
}

// Area returns the area of the region.
func Area(l []api.Point) (int, api.Errno) {
	if e := CheckOutline(l); e != api.OK {
		return 0, e
	}
	return doubleArea(l) / 2, api.OK
}

// Walls returns the sides.
func Walls(l []api.Point) ([]api.Wall, api.Errno) {
	if e := CheckOutline(l); e != api.OK {
		return nil, e
	}
	return sides(l), api.OK
}

// Corners returns for each corner 1 if it is outer, and -1 if it is inner.
func Corners(l []api.Point) ([]int, api.Errno) {
	if e := CheckOutline(l); e != api.OK {
		return nil, e
	}
	return bends(sides(l)), api.OK
}

// Offset returns the parallel outline at the distance d.
func Offset(l []api.Point, d int) ([]api.Point, api.Errno) {
	if e := CheckOutline(l); e != api.OK {
		return nil, e
	}
	if d < 0 || d > api.MaxPoint {
		return nil, api.ErrRange
	}
	w := sides(l)
	if shrinks(w, d) {
		return nil, api.ErrClash
	}
	out := parallel(w, d)
	switch CheckOutline(out) {
	case api.OK:
		return out, api.OK
	case api.ErrRange:
		return nil, api.ErrRange
	}
	return nil, api.ErrClash
}

// sides returns the sides of any list of points.
func sides(l []api.Point) []api.Wall {
	out := make([]api.Wall, len(l))
	for i := range l {
		out[i] = sideAt(l, i)
	}
	return out
}

// sideAt returns side i of any list of points.
func sideAt(l []api.Point, i int) api.Wall {
	p, q := l[i], l[(i+1)%len(l)]
	return api.Wall{From: p, To: q, Length: max(p.X-q.X, q.X-p.X) + max(p.Y-q.Y, q.Y-p.Y), Dir: direction(p, q)}
}

// before returns the side before side i.
func before(w []api.Wall, i int) api.Wall { return w[(i+len(w)-1)%len(w)] }

// alternate reports whether the sides are parallel to the one and the other axis by turns.
func alternate(w []api.Wall) bool {
	for i, side := range w {
		if side.Dir == noDirection || side.Dir%2 == before(w, i).Dir%2 {
			return false
		}
	}
	return true
}

// touch reports whether two sides that do not follow each other have a common point.
func touch(w []api.Wall) bool {
	for i := range w {
		for j := i + 2; j < len(w); j++ {
			follow := i == 0 && j == len(w)-1
			if !follow && meet(w[i], w[j]) {
				return true
			}
		}
	}
	return false
}

// meet reports whether two sides have a common point.
func meet(v, w api.Wall) bool {
	return min(v.From.X, v.To.X) <= max(w.From.X, w.To.X) && min(w.From.X, w.To.X) <= max(v.From.X, v.To.X) &&
		min(v.From.Y, v.To.Y) <= max(w.From.Y, w.To.Y) && min(w.From.Y, w.To.Y) <= max(v.From.Y, v.To.Y)
}

// doubleArea returns twice the area within a polygon, less than 0 if it is clockwise.
func doubleArea(l []api.Point) int {
	sum := 0
	for i, p := range l {
		q := l[(i+1)%len(l)]
		sum += p.X*q.Y - q.X*p.Y
	}
	return sum
}

// bends returns the kinds of the corners where the sides begin.
func bends(w []api.Wall) []int {
	out := make([]int, len(w))
	for i, side := range w {
		out[i] = -1
		if side.Dir == leftOf(before(w, i).Dir) {
			out[i] = 1
		}
	}
	return out
}

// shrinks reports whether a side loses all of its length where the sides are moved outwards by d.
func shrinks(w []api.Wall, d int) bool {
	corners := bends(w)
	for i, side := range w {
		if side.Length+d*(corners[i]+corners[(i+1)%len(w)]) <= 0 {
			return true
		}
	}
	return false
}

// parallel returns the beginnings of the sides when they are moved outwards by d.
func parallel(w []api.Wall, d int) []api.Point {
	out := make([]api.Point, len(w))
	for i, side := range w {
		p := shifted(side.From, rightOf(before(w, i).Dir), d)
		out[i] = shifted(p, rightOf(side.Dir), d)
	}
	return out
}
