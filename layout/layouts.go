package layout

import "putlog/api"

// CheckLayout accepts layouts round a building.
func CheckLayout(b api.Building, s api.System, l api.Layout) api.Errno {
	_, e := ringWithLayout(b, s, l)
	return e
}

// Total returns the cost of a layout.
func Total(b api.Building, s api.System, l api.Layout) (api.Cost, api.Errno) {
	if e := CheckLayout(b, s, l); e != api.OK {
		return api.Cost{}, e
	}
	return total(s, l), api.OK
}

// ringWithLayout returns the ring, or its error, or that of CheckLayout.
func ringWithLayout(b api.Building, s api.System, l api.Layout) (ring, api.Errno) {
	r, e := ringOf(b, s)
	if e != api.OK {
		return ring{}, e
	}
	if e := r.layoutError(l); e != api.OK {
		return ring{}, e
	}
	return r, api.OK
}

// layoutError is the first error of a layout.
func (r ring) layoutError(l api.Layout) api.Errno {
	n := len(r.walls)
	if len(l.Corners) != n || len(l.Runs) != n {
		return api.ErrShape
	}
	if e := choicesError(l.Corners); e != api.OK {
		return e
	}
	for i, run := range l.Runs {
		begin, end := l.Corners[i], l.Corners[(i+1)%n]
		switch {
		case run.Facade != i:
			return api.ErrOrder
		case run.Start != r.start(i, begin) || run.Length != r.length(i, begin, end):
			return api.ErrForm
		}
		if e := CheckClosing(r.system, run.Length, run.Close); e != api.OK {
			return e
		}
	}
	return api.OK
}

// total is Total without its errors.
func total(s api.System, l api.Layout) api.Cost {
	var out api.Cost
	for _, run := range l.Runs {
		c := costOf(s, run.Close)
		out.Odd += c.Odd
		out.Bays += c.Bays
	}
	return out
}
