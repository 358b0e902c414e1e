package holding

import (
	"cmp"
	"math/bits"
	"slices"

	"putlog/api"
)

// Choose returns the first one of the smallest sets of places that hold the grid.
func Choose(g api.Grid, r api.TieRule, l []api.Tie) ([]api.Tie, api.Errno) {
	d, e := Demands(g, r, l)
	if e != api.OK {
		return nil, e
	}
	if len(l) > api.MaxPlaces {
		return nil, api.ErrLarge
	}
	demands := masksOf(d)
	for size := range len(l) + 1 {
		if chosen, ok := choose(demands, 0, size); ok {
			return chosenOf(l, chosen), api.OK
		}
	}
	return nil, api.ErrHeld
}

// masksOf returns the places of the essential demands, a bit for each place. Those with few places come
// first, as apart finds more with them.
func masksOf(d []api.Demand) []uint32 {
	var out []uint32
	for _, i := range essential(d) {
		mask := uint32(0)
		for _, p := range d[i].Places {
			mask |= 1 << p
		}
		out = append(out, mask)
	}
	slices.SortStableFunc(out, func(x, y uint32) int { return cmp.Compare(bits.OnesCount32(x), bits.OnesCount32(y)) })
	return out
}

// choose returns the first set of so many places, all from next on, that meets the demands, and whether
// there is one. No smaller set may meet them.
func choose(demands []uint32, next, size int) (uint32, bool) {
	if len(demands) == 0 {
		return 0, true
	}
	if apart(demands, next) > size {
		return 0, false
	}
	for p := next; p <= latestStart(demands); p++ {
		rest := slices.DeleteFunc(slices.Clone(demands), func(d uint32) bool { return d>>p&1 == 1 })
		if len(rest) == len(demands) {
			continue // a set with this place would be smaller without it
		}
		if chosen, ok := choose(rest, p+1, size-1); ok {
			return chosen | 1<<p, true
		}
	}
	return 0, false
}

// apart returns a number of demands of which no two have a common place from next on. Each of them needs
// a place of its own.
func apart(demands []uint32, next int) int {
	n := 0
	used := uint32(0)
	for _, d := range demands {
		if d>>next&used == 0 {
			used |= d >> next
			n++
		}
	}
	return n
}

// latestStart returns the last place with which a set can begin: a demand has none behind it.
func latestStart(demands []uint32) int {
	last := 31
	for _, d := range demands {
		last = min(last, bits.Len32(d)-1)
	}
	return last
}

// chosenOf returns the elements of l whose bits are set.
func chosenOf(l []api.Tie, chosen uint32) []api.Tie {
	var out []api.Tie
	for i, t := range l {
		if chosen>>i&1 == 1 {
			out = append(out, t)
		}
	}
	return out
}
