package building

import "putlog/api"

// CheckBox accepts valid boxes.
func CheckBox(x api.Box) api.Errno {
	switch {
	case !inRange(x.X1, x.Y1, x.Z1, x.X2, x.Y2, x.Z2):
		return api.ErrRange
	case x.X1 >= x.X2 || x.Y1 >= x.Y2 || x.Z1 >= x.Z2:
		return api.ErrForm
	}
	return api.OK
}

// Overlap reports whether the insides of two boxes have a common point.
func Overlap(x, y api.Box) (bool, api.Errno) {
	if e := boxesError(x, y); e != api.OK {
		return false, e
	}
	return CheckBox(common(x, y)) == api.OK, api.OK
}

// Common returns the box that two boxes have in common.
func Common(x, y api.Box) (api.Box, api.Errno) {
	if e := boxesError(x, y); e != api.OK {
		return api.Box{}, e
	}
	both := common(x, y)
	if CheckBox(both) != api.OK {
		return api.Box{}, api.ErrNone
	}
	return both, api.OK
}

// Pierces reports whether a point of the straight line from a to b is inside of the box.
func Pierces(x api.Box, a, b api.Node) (bool, api.Errno) {
	if e := CheckBox(x); e != api.OK {
		return false, e
	}
	for _, p := range []api.Node{a, b} {
		if e := nodeError(p); e != api.OK {
			return false, e
		}
	}
	s := stretch{share{-1, 1}, share{2, 1}}
	s = s.within(a.X, b.X, x.X1, x.X2)
	s = s.within(a.Y, b.Y, x.Y1, x.Y2)
	s = s.within(a.Z, b.Z, x.Z1, x.Z2)
	return s.from.less(s.to) && s.from.less(share{1, 1}) && share{0, 1}.less(s.to), api.OK
}

func boxesError(x, y api.Box) api.Errno {
	if e := CheckBox(x); e != api.OK {
		return e
	}
	return CheckBox(y)
}

// common returns the box that two boxes have in common; it is not valid if their insides have no common point.
func common(x, y api.Box) api.Box {
	return api.Box{
		X1: max(x.X1, y.X1), Y1: max(x.Y1, y.Y1), Z1: max(x.Z1, y.Z1),
		X2: min(x.X2, y.X2), Y2: min(x.Y2, y.Y2), Z2: min(x.Z2, y.Z2),
	}
}

// ground returns the outline of a box.
func ground(x api.Box) []api.Point {
	return []api.Point{{X: x.X1, Y: x.Y1}, {X: x.X2, Y: x.Y1}, {X: x.X2, Y: x.Y2}, {X: x.X1, Y: x.Y2}}
}

// A share is num/den of a way, den being positive.
type share struct{ num, den int }

func (s share) less(t share) bool { return s.num*t.den < t.num*s.den }

// A stretch is the part of a way that lies strictly between two shares. It may reach beyond the ends of
// the way, so that an end that lies inside belongs to it.
type stretch struct{ from, to share }

// within returns the part of the stretch on which a number that goes from a to b lies strictly between low and high.
func (s stretch) within(a, b, low, high int) stretch {
	switch {
	case a == b && low < a && a < high:
		return s
	case a == b:
		return stretch{s.from, s.from}
	case a > b: // the same, seen from the other side of 0
		a, b, low, high = -a, -b, -high, -low
	}
	if from := (share{low - a, b - a}); s.from.less(from) {
		s.from = from
	}
	if to := (share{high - a, b - a}); to.less(s.to) {
		s.to = to
	}
	return s
}
