package record

import "putlog/api"

// still stands for the day on which pieces went, and for how, while they are on hire.
const still = -1

// Lots returns the lots of all moves.
func Lots(t []api.Term, l []api.Move) ([]api.Lot, api.Errno) {
	if e := CheckMoves(t, l); e != api.OK {
		return nil, e
	}
	var out []api.Lot
	for _, x := range t {
		out = append(out, lotsOf(x.Part, l)...)
	}
	return out, api.OK
}

// lotsOf returns the lots of a part. What went came before what is on hire, as the first in are the first out.
func lotsOf(part string, l []api.Move) []api.Lot {
	var went, hired []api.Lot
	for _, m := range l {
		if m.Part != part {
			continue
		}
		if m.Kind == api.MoveDelivered {
			hired = append(hired, api.Lot{Part: part, Count: m.Count, In: m.Day, Day: still, Out: still})
			continue
		}
		for left := m.Count; left > 0; {
			first := &hired[0]
			count := min(left, first.Count)
			went = append(went, api.Lot{Part: part, Count: count, In: first.In, Day: m.Day, Out: m.Kind})
			left -= count
			first.Count -= count
			if first.Count == 0 {
				hired = hired[1:]
			}
		}
	}
	return append(went, hired...)
}

// Weeks returns the weeks from a day to another one.
func Weeks(in, out, least int) (int, api.Errno) {
	switch {
	case !isDay(in) || !isDay(out) || !areFrom(0, maxLeast, least):
		return 0, api.ErrRange
	case out < in:
		return 0, api.ErrOrder
	}
	return weeksOf(in, out, least), api.OK
}

// weeksOf returns the begun weeks from a day to another one, but at least so many.
func weeksOf(in, out, least int) int {
	days := out - in + 1
	return max((days+6)/7, least)
}
