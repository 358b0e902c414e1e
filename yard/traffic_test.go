package yard_test

import (
	"fmt"
	"math/rand"
	"slices"
	"testing"

	"putlog/api"
	"putlog/yard"
)

// someTraffic is a traffic with at most so many places and days, and counts of at most so many.
func someTraffic(d *rand.Rand, places, days, most int) api.Traffic {
	t := api.Traffic{Places: 1 + d.Intn(places), Days: 1 + d.Intn(days)}
	list := func(n int) []api.Supply {
		out := []api.Supply{}
		for range n {
			out = append(out, api.Supply{Place: d.Intn(t.Places), Day: d.Intn(t.Days), Count: d.Intn(most + 1)})
		}
		return out
	}
	t.Supplies, t.Needs = list(d.Intn(5)), list(d.Intn(5))
	for range d.Intn(7) {
		from, to := d.Intn(t.Places), d.Intn(t.Places)
		if from != to {
			t.Routes = append(t.Routes, route(from, to, 1+d.Intn(1+d.Intn(4)), d.Intn(most+1)))
		}
	}
	return t
}

// greatTraffic is a traffic as large as may be.
func greatTraffic(d *rand.Rand) api.Traffic {
	t := api.Traffic{Places: 8, Days: 20}
	most := 1 + d.Intn(1000000)
	for range 40 {
		t.Supplies = append(t.Supplies, api.Supply{Place: d.Intn(3), Day: d.Intn(8), Count: d.Intn(most + 1)})
		t.Needs = append(t.Needs, api.Supply{Place: 3 + d.Intn(5), Day: 8 + d.Intn(12), Count: d.Intn(most + 1)})
	}
	for range 30 {
		from := d.Intn(8)
		t.Routes = append(t.Routes, route(from, (from+1+d.Intn(7))%8, 1+d.Intn(3), d.Intn(most+1)))
	}
	return t
}

// P8.6: which values are traffics.
func TestCheckTraffic(t *testing.T) {
	check := func(x input) api.Errno { return yard.CheckTraffic(x.traffic) }
	inOrder(t, "CheckTraffic", check, trafficFaults()...)
	for i := range 2 {
		within(t, "CheckTraffic", 1, 20, func(x *input) *int { return &x.traffic.Routes[i].Days }, check)
		within(t, "CheckTraffic", 0, 1000000, func(x *input) *int { return &x.traffic.Routes[i].Most }, check)
		for _, l := range []func(x *input) []api.Supply{
			func(x *input) []api.Supply { return x.traffic.Supplies },
			func(x *input) []api.Supply { return x.traffic.Needs },
		} {
			within(t, "CheckTraffic", 0, 2, func(x *input) *int { return &l(x)[i].Place }, check)
			within(t, "CheckTraffic", 0, 3, func(x *input) *int { return &l(x)[i].Day }, check)
			within(t, "CheckTraffic", 0, 1000000, func(x *input) *int { return &l(x)[i].Count }, check)
		}
	}
	d := dice()
	for _, x := range []struct {
		t  api.Traffic
		is api.Errno
	}{
		{theTraffic(), api.OK},
		{api.Traffic{Places: 1, Days: 1}, api.OK},
		{api.Traffic{Places: 8, Days: 20}, api.OK},
		{api.Traffic{Places: 1}, api.ErrRange},
		{api.Traffic{Days: 1}, api.ErrRange},
		{api.Traffic{}, api.ErrRange},
		{greatTraffic(d), api.OK},
		{api.Traffic{Places: 1, Days: 1, Supplies: supplies(0, 0, 1), Needs: supplies(0, 0, 1)}, api.OK},
		{api.Traffic{Places: 8, Days: 20, Routes: []api.Route{route(7, 0, 20, 1000000), route(0, 7, 20, 0)}, Supplies: supplies(7, 19, 0)}, api.OK},
		{api.Traffic{Places: 1, Days: 1, Routes: []api.Route{route(0, 0, 1, 1)}}, api.ErrForm},
		{api.Traffic{Places: 1, Days: 1, Routes: []api.Route{route(0, 1, 1, 1)}}, api.ErrMissing},
		{api.Traffic{Places: 1, Days: 1, Routes: []api.Route{route(1, 1, 1, 1)}}, api.ErrMissing},
	} {
		wantError(t, "CheckTraffic", yard.CheckTraffic(x.t), x.is)
	}
	long := greatTraffic(d)
	long.Supplies = append(long.Supplies, supplies(0, 0, 0)...)
	wantError(t, "CheckTraffic of 41 supplies", yard.CheckTraffic(long), api.ErrLarge)
	long = greatTraffic(d)
	long.Needs = append(long.Needs, supplies(0, 0, 0)...)
	wantError(t, "CheckTraffic of 41 needs", yard.CheckTraffic(long), api.ErrLarge)
	long = greatTraffic(d)
	long.Routes = append(long.Routes, route(0, 1, 1, 0))
	wantError(t, "CheckTraffic of 31 routes", yard.CheckTraffic(long), api.ErrLarge)
}

// at is how many parts of supplies are at a place on a day.
func at(l []api.Supply, place, day int) int {
	n := 0
	for _, s := range l {
		if s.Place == place && s.Day == day {
			n += s.Count
		}
	}
	return n
}

// tripsResult is what trips meet, or their error. At each place the needs can take all that they want, but for
// no day more than what the place then has, if nothing is taken, and what they want later.
func tripsResult(t api.Traffic, l []api.Trip) (int, api.Errno) {
	if len(l) > 2000 {
		return 0, api.ErrLarge
	}
	for _, x := range l {
		if x.Route < 0 || x.Route >= len(t.Routes) {
			return 0, api.ErrMissing
		}
		if x.Day < 0 || x.Day >= t.Days || x.Day+t.Routes[x.Route].Days >= t.Days || x.Count < 1 || x.Count > 1000000 {
			return 0, api.ErrRange
		}
	}
	for i, r := range t.Routes {
		for day := range t.Days {
			n := 0
			for _, x := range l {
				if x.Route == i && x.Day == day {
					n += x.Count
				}
			}
			if n > r.Most {
				return 0, api.ErrLimit
			}
		}
	}
	sum := 0
	for place := range t.Places {
		wanted := 0
		for day := range t.Days {
			wanted += at(t.Needs, place, day)
		}
		has, later, most := 0, wanted, wanted
		for day := range t.Days {
			has += at(t.Supplies, place, day)
			for _, x := range l {
				r := t.Routes[x.Route]
				if r.From == place && x.Day == day {
					has -= x.Count
				}
				if r.To == place && x.Day+r.Days == day {
					has += x.Count
				}
			}
			if has < 0 {
				return 0, api.ErrStock
			}
			later -= at(t.Needs, place, day)
			most = min(most, has+later)
		}
		sum += most
	}
	return sum, api.OK
}

// taken is the greatest number of parts that needs can take beside trips: all takings are tried.
func taken(t api.Traffic, l []api.Trip, left []api.Supply) int {
	if len(left) == 0 {
		return 0
	}
	best := taken(t, l, left[1:])
	need := left[0]
	for n := 1; n <= need.Count; n++ {
		// what is taken is as a supply that is not there
		fewer := t
		fewer.Supplies = append(slices.Clone(t.Supplies), api.Supply{Place: need.Place, Day: need.Day, Count: -n})
		if _, e := tripsResult(fewer, l); e != api.OK {
			break
		}
		best = max(best, n+taken(fewer, l, left[1:]))
	}
	return best
}

// someTrips is trips of a traffic, some of which may be wrong.
func someTrips(d *rand.Rand, t api.Traffic) []api.Trip {
	l := []api.Trip{}
	for i, r := range t.Routes {
		for day := range t.Days {
			if d.Intn(3) == 0 && (day+r.Days < t.Days || d.Intn(30) == 0) {
				l = append(l, api.Trip{Route: i, Day: day, Count: 1 + d.Intn(r.Most+1)*d.Intn(2)})
			}
		}
	}
	d.Shuffle(len(l), func(i, j int) { l[i], l[j] = l[j], l[i] })
	return l[:min(len(l), d.Intn(6))]
}

// P8.7: what trips meet; the first ones are the chapter's example.
func TestCheckTrips(t *testing.T) {
	waiting := api.Traffic{
		Places: 3, Days: 5,
		Routes:   []api.Route{route(0, 1, 2, 5), route(1, 2, 1, 5), route(0, 1, 2, 5)},
		Supplies: supplies(0, 1, 6, 0, 0, 1, 1, 0, 2, 0, 1, 1),
		Needs:    supplies(0, 0, 1, 0, 4, 3, 1, 2, 4, 1, 2, 2, 1, 4, 3, 2, 4, 9),
	}
	for _, x := range []struct {
		t     api.Traffic
		trips []api.Trip
		right int
		is    api.Errno
	}{
		{theTraffic(), trips(0, 0, 4, 0, 1, 4), 8, api.OK},
		{theTraffic(), trips(0, 1, 4, 0, 0, 4), 8, api.OK},
		{theTraffic(), trips(0, 0, 1, 0, 0, 3, 0, 1, 2), 6, api.OK},
		{theTraffic(), trips(0, 1, 4), 4, api.OK},
		{theTraffic(), nil, 0, api.OK},
		{theTraffic(), trips(0, 0, 5), 0, api.ErrLimit},
		{theTraffic(), trips(0, 0, 4, 0, 0, 1), 0, api.ErrLimit},
		{theTraffic(), trips(0, 2, 1), 0, api.ErrRange},
		{theTraffic(), trips(0, 3, 1), 0, api.ErrRange},
		{theTraffic(), trips(0, -1, 1), 0, api.ErrRange},
		{theTraffic(), trips(0, 0, 0), 0, api.ErrRange},
		{theTraffic(), trips(1, 0, 1), 0, api.ErrMissing},
		{waiting, nil, 1 + 3 + 2, api.OK},
		{waiting, trips(0, 0, 1), 0 + 3 + 3, api.OK},                       // what leaves on day 0 is not there for the need
		{waiting, trips(0, 0, 2), 0, api.ErrStock},                         // the supplies of day 1 are not there yet
		{waiting, trips(0, 1, 4, 2, 1, 4), 0 + 2 + 3, api.OK},              // all leaves; eight arrive behind a need, for one of three
		{waiting, trips(0, 1, 5, 2, 1, 4), 0, api.ErrStock},                // nine are not there
		{waiting, trips(0, 1, 5, 2, 1, 2), 1 + 2 + 3, api.OK},              // one stays and is taken at once
		{waiting, trips(1, 3, 2), 1 + 3 + 0 + 2, api.OK},                   // what leaves later cannot be taken before
		{waiting, trips(1, 2, 3), 0, api.ErrStock},                         // there are two
		{waiting, trips(0, 1, 5, 1, 3, 5), 1 + 2 + 2 + 5, api.OK},          // what arrives goes on at once
		{waiting, trips(0, 1, 5, 1, 2, 3), 0, api.ErrStock},                // it is not there yet
		{waiting, trips(0, 2, 5, 1, 3, 3), 0, api.ErrStock},                // it is not there yet
		{waiting, trips(1, 3, 3, 0, 2, 5, 0, 2, 1), 0, api.ErrLimit},       // and it is not there yet
		{waiting, trips(0, 2, 5, 2, 2, 1, 1, 3, 1), 2 + 1 + 3 + 1, api.OK}, // two routes from 0 to 1
		{waiting, slices.Repeat(trips(0, 2, 1), 5), 1 + 2 + 2 + 3, api.OK},
		{waiting, slices.Repeat(trips(0, 2, 1), 6), 0, api.ErrLimit},
	} {
		n, e := yard.CheckTrips(x.t, x.trips)
		want(t, fmt.Sprint("CheckTrips of ", x.trips), n, e, x.right, x.is)
	}
}

// P8.7: trips of all sorts, by the chapter's definition, and of few parts by all takings.
func TestCheckTripsByDefinition(t *testing.T) {
	d := dice()
	results := map[api.Errno]int{}
	met := 0
	for i := range 20000 {
		x := someTraffic(d, 4, 6, 5)
		l := someTrips(d, x)
		right, is := tripsResult(x, l)
		results[is]++
		n, e := yard.CheckTrips(x, l)
		want(t, fmt.Sprint("CheckTrips of ", x, l), n, e, right, is)
		if is == api.OK && i%10 == 0 && n != taken(x, l, x.Needs) {
			t.Errorf("CheckTrips of %v, %v: %d, by all takings %d", x, l, n, taken(x, l, x.Needs))
		}
		if n > 0 && len(l) > 0 {
			met++
		}
	}
	for _, e := range []api.Errno{api.OK, api.ErrRange, api.ErrLimit, api.ErrStock} {
		if results[e] < 200 {
			t.Errorf("only %d lists of trips have the error %d", results[e], e)
		}
	}
	if met < 200 {
		t.Errorf("only %d lists of trips meet needs", met)
	}
}

// P8.7: the errors of CheckTrips, and what is at its limits.
func TestCheckTripsErrors(t *testing.T) {
	call := func(x input) api.Errno {
		n, e := yard.CheckTrips(x.traffic, x.trips)
		if e != api.OK {
			want(t, "CheckTrips", n, e, 0, e)
		}
		return e
	}
	list := append(trafficFaults(), one(api.ErrLarge, func(x *input) { x.trips = append(x.trips, make([]api.Trip, 1999)...) }))
	for i := range 2 {
		list = append(list,
			beyond(api.ErrMissing, 0, 1, func(x *input) *int { return &x.trips[i].Route }),
			slices.Concat(
				beyond(api.ErrRange, 0, 3, func(x *input) *int { return &x.trips[i].Day }),
				one(api.ErrRange, func(x *input) { x.trips[i].Day = 3 - i }), // it arrives on the day 4
				beyond(api.ErrRange, 1, 1000000, func(x *input) *int { return &x.trips[i].Count }),
			),
		)
	}
	inOrder(t, "CheckTrips", call, append(list,
		[]fault{
			{api.ErrLimit, func(x *input) { x.trips[0].Count = 5 }},
			{api.ErrLimit, func(x *input) { x.trips[1].Count = 1000000 }},
			{api.ErrLimit, func(x *input) { x.traffic.Routes[1].Most = 1 }},
		},
		one(api.ErrStock, func(x *input) { x.traffic.Supplies[0].Count = 3 }),
	)...)
	x := fine()
	x.traffic.Routes[0].Most, x.traffic.Supplies[0].Count, x.traffic.Needs[0].Count = 1000000, 1000000, 1000000
	x.trips = trips(0, 1, 1000000)
	wantError(t, "CheckTrips of a million parts", call(x), api.OK)
	x.trips = slices.Repeat(trips(0, 1, 500), 2000)
	n, e := yard.CheckTrips(x.traffic, x.trips)
	want(t, "CheckTrips of 2000 trips", n, e, 1000000, api.OK)
	x.trips[1999].Count++
	wantError(t, "CheckTrips of 2000 trips", call(x), api.ErrLimit)
	wantError(t, "CheckTrips of 2001 trips", call(input{traffic: x.traffic, trips: make([]api.Trip, 2001)}), api.ErrLarge)
	wantError(t, "CheckTrips of trips without routes", call(input{traffic: api.Traffic{Places: 1, Days: 1}, trips: trips(0, 0, 1)}), api.ErrMissing)
}
