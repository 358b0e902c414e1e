package yard

import "putlog/api"

// maxTrips is the number of trips that are looked at.
const maxTrips = 2000

// CheckTrips returns what right trips meet.
func CheckTrips(t api.Traffic, l []api.Trip) (int, api.Errno) {
	if e := CheckTraffic(t); e != api.OK {
		return 0, e
	}
	if len(l) > maxTrips {
		return 0, api.ErrLarge
	}
	loads := map[[2]int]int{} // of each route on each day
	for _, trip := range l {
		if e := tripError(t, trip); e != api.OK {
			return 0, e
		}
		loads[[2]int{trip.Route, trip.Day}] += trip.Count
	}
	for at, count := range loads {
		if count > t.Routes[at[0]].Most {
			return 0, api.ErrLimit
		}
	}
	return metBy(t, l)
}

// tripError is the first error of a trip.
func tripError(t api.Traffic, trip api.Trip) api.Errno {
	switch {
	case !areFrom(0, len(t.Routes)-1, trip.Route):
		return api.ErrMissing
	case !areFrom(0, t.Days-1-t.Routes[trip.Route].Days, trip.Day) || !areFrom(1, api.MaxCount, trip.Count):
		return api.ErrRange
	}
	return api.OK
}

// metBy returns how many parts the needs can take, or ErrStock.
func metBy(t api.Traffic, l []api.Trip) (int, api.Errno) {
	gains := map[spot]int{} // what comes less what leaves
	for _, s := range t.Supplies {
		gains[ofSupply(s)] += s.Count
	}
	for _, trip := range l {
		gains[leaving(t, trip)] -= trip.Count
		gains[arriving(t, trip)] += trip.Count
	}
	wanted := map[spot]int{}
	for _, n := range t.Needs {
		wanted[ofSupply(n)] += n.Count
	}
	sum := 0
	for place := range t.Places {
		spare := sparesAt(place, t.Days, gains)
		if spare[0] < 0 {
			return 0, api.ErrStock
		}
		taken := 0
		for day := range t.Days {
			taken = min(taken+wanted[spot{place, day}], spare[day])
		}
		sum += taken
	}
	return sum, api.OK
}

// sparesAt returns for each day how many parts may have been taken from a place up to then, so that those
// that leave are still there: the fewest that the place has from this day on.
func sparesAt(place, days int, gains map[spot]int) []int {
	out := make([]int, days)
	sum := 0
	for day := range days {
		sum += gains[spot{place, day}]
		out[day] = sum
	}
	for day := days - 2; day >= 0; day-- {
		out[day] = min(out[day], out[day+1])
	}
	return out
}
