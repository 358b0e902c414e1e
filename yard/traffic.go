package yard

import "putlog/api"

// CheckTraffic accepts what is a traffic.
func CheckTraffic(t api.Traffic) api.Errno {
	if !areFrom(1, api.MaxSites, t.Places) || !areFrom(1, api.MaxHorizon, t.Days) {
		return api.ErrRange
	}
	if len(t.Routes) > api.MaxRoutes || len(t.Supplies) > api.MaxSupplies || len(t.Needs) > api.MaxSupplies {
		return api.ErrLarge
	}
	for _, r := range t.Routes {
		switch {
		case !areFrom(0, t.Places-1, r.From, r.To):
			return api.ErrMissing
		case r.From == r.To:
			return api.ErrForm
		case !areFrom(1, api.MaxHorizon, r.Days) || !areFrom(0, api.MaxCount, r.Most):
			return api.ErrRange
		}
	}
	for _, l := range [][]api.Supply{t.Supplies, t.Needs} {
		for _, s := range l {
			if !areFrom(0, t.Places-1, s.Place) {
				return api.ErrMissing
			}
			if !areFrom(0, t.Days-1, s.Day) || !areFrom(0, api.MaxCount, s.Count) {
				return api.ErrRange
			}
		}
	}
	return api.OK
}

// allTrips returns the trips by each route, on each day on which one may leave, of as many parts as may.
func allTrips(t api.Traffic) []api.Trip {
	var out []api.Trip
	for i, r := range t.Routes {
		for day := range t.Days - r.Days {
			out = append(out, api.Trip{Route: i, Day: day, Count: r.Most})
		}
	}
	return out
}

// A spot is a place and a day.
type spot [2]int

// leaving returns where and when a trip leaves.
func leaving(t api.Traffic, trip api.Trip) spot {
	return spot{t.Routes[trip.Route].From, trip.Day}
}

// arriving returns where and when a trip arrives.
func arriving(t api.Traffic, trip api.Trip) spot {
	r := t.Routes[trip.Route]
	return spot{r.To, trip.Day + r.Days}
}

// ofSupply returns where and when a supply comes, or a need takes.
func ofSupply(s api.Supply) spot { return spot{s.Place, s.Day} }
