package yard

import (
	"slices"

	"putlog/api"
)

// Cut returns a cut with the least capacity, and this.
func Cut(t api.Traffic) ([][2]int, int, api.Errno) {
	if e := CheckTraffic(t); e != api.OK {
		return nil, 0, e
	}
	n := networkOf(t)
	n.fill()
	last := n.reached() // what more parts could reach is a least cut
	var out [][2]int
	for place := range t.Places {
		for day := range t.Days {
			if last[knotOf(t, spot{place, day})] != unreached {
				out = append(out, spot{place, day})
			}
		}
	}
	return out, capacity(t, out), api.OK
}

// CheckCut returns the capacity of a cut.
func CheckCut(t api.Traffic, l [][2]int) (int, api.Errno) {
	if e := CheckTraffic(t); e != api.OK {
		return 0, e
	}
	for i, at := range l {
		if !areFrom(0, t.Places-1, at[0]) || !areFrom(0, t.Days-1, at[1]) {
			return 0, api.ErrMissing
		}
		if i > 0 && slices.Compare(at[:], l[i-1][:]) <= 0 {
			return 0, api.ErrOrder
		}
	}
	for i, at := range l {
		next := spot{at[0], at[1] + 1}
		if next[1] < t.Days && (i == len(l)-1 || l[i+1] != next) {
			return 0, api.ErrProof
		}
	}
	return capacity(t, l), api.OK
}

// capacity returns the capacity of a cut.
func capacity(t api.Traffic, cut [][2]int) int {
	isIn := map[spot]bool{}
	for _, at := range cut {
		isIn[at] = true
	}
	sum := 0
	for _, s := range t.Supplies {
		if !isIn[ofSupply(s)] {
			sum += s.Count
		}
	}
	for _, s := range t.Needs {
		if isIn[ofSupply(s)] {
			sum += s.Count
		}
	}
	for _, trip := range allTrips(t) {
		if isIn[leaving(t, trip)] && !isIn[arriving(t, trip)] {
			sum += trip.Count
		}
	}
	return sum
}
