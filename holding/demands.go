package holding

import (
	"cmp"

	"putlog/api"
)

// Demands returns all demands with respect to a list of ties.
func Demands(g api.Grid, r api.TieRule, l []api.Tie) ([]api.Demand, api.Errno) {
	if e := rulesError(g, r); e != api.OK {
		return nil, e
	}
	if e := tiesError(g, l); e != api.OK {
		return nil, e
	}
	heights := wanting(g, r)
	var out []api.Demand
	for i := range g.Along {
		for _, h := range heights {
			out = append(out, api.Demand{Standard: i, From: h, Places: answers(g, r, l, i, h)})
		}
	}
	return out, api.OK
}

// wanting returns the heights of the ground and of levels that are too far below the top to be the last.
func wanting(g api.Grid, r api.TieRule) []int {
	top := g.Levels[len(g.Levels)-1]
	var out []int
	for _, h := range append([]int{0}, g.Levels...) {
		if top-h > r.Free {
			out = append(out, h)
		}
	}
	return out
}

// answers returns the numbers of the ties that meet the demand of a standard from a height on.
func answers(g api.Grid, r api.TieRule, l []api.Tie, standard, from int) []int {
	var out []int
	for n, t := range l {
		above := g.Levels[t.Level] - from
		if above > 0 && above <= r.Every && distance(t.Standard, standard) <= r.Skip {
			out = append(out, n)
		}
	}
	return out
}

// Held reports whether ties hold the grid, and returns the first demand without a tie if they do not.
func Held(g api.Grid, r api.TieRule, ties []api.Tie) (bool, api.Demand, api.Errno) {
	l, e := Demands(g, r, ties)
	if e != api.OK {
		return false, api.Demand{}, e
	}
	for _, d := range l {
		if len(d.Places) == 0 {
			return false, d, api.OK
		}
	}
	return true, api.Demand{}, api.OK
}

// Essential returns the numbers of the essential demands.
func Essential(d []api.Demand) ([]int, api.Errno) {
	if e := demandsError(d, maxTies); e != api.OK {
		return nil, e
	}
	return essential(d), api.OK
}

// demandsError returns the error of demands over so many places.
func demandsError(l []api.Demand, places int) api.Errno {
	if len(l) > maxTies {
		return api.ErrLarge
	}
	for _, d := range l {
		switch {
		case !areFrom(0, places-1, d.Places...):
			return api.ErrRange
		case !ascend(d.Places, cmp.Compare[int]):
			return api.ErrOrder
		}
	}
	return api.OK
}

// essential is Essential without its errors.
func essential(l []api.Demand) []int {
	sets := make([]placeSet, len(l))
	for i, d := range l {
		sets[i] = setOf(d.Places)
	}
	var out []int
	for i := range l {
		if isEssential(sets, i) {
			out = append(out, i)
		}
	}
	return out
}

// isEssential reports whether no set lies within the one with a number, but for itself and later ones that
// equal it.
func isEssential(sets []placeSet, number int) bool {
	for i := range sets {
		if sets[i].isWithin(&sets[number]) && (i < number || sets[i] != sets[number]) {
			return false
		}
	}
	return true
}

// A placeSet is a set of numbers of places, one bit for each.
type placeSet [(maxTies + wordBits - 1) / wordBits]uint64

const wordBits = 64

func setOf(places []int) placeSet {
	var s placeSet
	for _, p := range places {
		s[p/wordBits] |= 1 << (p % wordBits)
	}
	return s
}

// isWithin reports whether all places of s are places of t.
func (s *placeSet) isWithin(t *placeSet) bool {
	for i, word := range s {
		if word&^t[i] != 0 {
			return false
		}
	}
	return true
}
