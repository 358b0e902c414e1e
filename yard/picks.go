package yard

import (
	"putlog/api"
	"putlog/spelling"
)

// maxSwapped is the number of parts that may replace one.
const maxSwapped = 100

// Pick returns the movements of picking an order, and the wants with what is lacking.
func Pick(l []api.Stock, o api.Order) ([]api.Movement, []api.Want, api.Errno) {
	if e := Check(l); e != api.OK {
		return nil, nil, e
	}
	if e := orderError(o); e != api.OK {
		return nil, nil, e
	}
	p := picking{left: shelvesOf(l), place: o.Place}
	var lacking []api.Want
	for _, w := range o.Wants {
		w.Count -= p.take(w.Part, w.Count, 1)
		for _, x := range o.Swaps {
			if x.Part == w.Part {
				w.Count -= p.take(x.By, w.Count, x.Count)
			}
		}
		if w.Count > 0 {
			lacking = append(lacking, w)
		}
	}
	return p.moves, lacking, api.OK
}

// A picking takes parts for a place.
type picking struct {
	left  shelves
	place int
	moves []api.Movement
}

// take takes good parts for as many pieces as can be had, but at most so many, and returns their number;
// each piece needs so many parts.
func (p *picking) take(part string, most, each int) int {
	from := shelf{part, home, good}
	pieces := min(most, p.left[from]/each)
	if pieces > 0 {
		count := pieces * each
		p.left.put(from, -count)
		p.moves = append(p.moves, api.Movement{
			Part: part, From: home, To: p.place, Before: good, After: good, Count: count,
		})
	}
	return pieces
}

// orderError is the first error of an order.
func orderError(o api.Order) api.Errno {
	if !areFrom(firstJob, lastJob, o.Place) {
		return api.ErrRange
	}
	if len(o.Wants) > api.MaxParts || len(o.Swaps) > api.MaxParts {
		return api.ErrShape
	}
	if e := wantsError(o.Wants, 1); e != api.OK {
		return e
	}
	for _, x := range o.Swaps {
		switch {
		case !spelling.IsName(x.Part) || !spelling.IsName(x.By):
			return api.ErrName
		case x.Part == x.By:
			return api.ErrForm
		case !areFrom(1, maxSwapped, x.Count):
			return api.ErrRange
		}
	}
	return api.OK
}

// wantsError is the first error of wants, each one of at least so many parts.
func wantsError(l []api.Want, least int) api.Errno {
	for _, w := range l {
		if !spelling.IsName(w.Part) {
			return api.ErrName
		}
		if !areFrom(least, api.MaxCount, w.Count) {
			return api.ErrRange
		}
	}
	return api.OK
}
