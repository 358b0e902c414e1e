package yard_test

import (
	"fmt"
	"math/rand"
	"slices"
	"testing"

	"putlog/api"
	"putlog/yard"
)

// isCut reports whether pairs are an ascending list of places and days, with each one all later days of its place.
func isCut(t api.Traffic, l [][2]int) bool {
	for i, p := range l {
		if p[0] < 0 || p[0] >= t.Places || p[1] < 0 || p[1] >= t.Days || i > 0 && slices.Compare(l[i-1][:], p[:]) >= 0 {
			return false
		}
		if p[1]+1 < t.Days && !slices.Contains(l, [2]int{p[0], p[1] + 1}) {
			return false
		}
	}
	return true
}

// capacityOf is the capacity of a cut.
func capacityOf(t api.Traffic, l [][2]int) int {
	sum := 0
	for place := range t.Places {
		for day := range t.Days {
			if slices.Contains(l, [2]int{place, day}) {
				sum += at(t.Needs, place, day)
			} else {
				sum += at(t.Supplies, place, day)
			}
			for _, r := range t.Routes {
				arrives := day + r.Days
				if r.From == place && arrives < t.Days && slices.Contains(l, [2]int{place, day}) && !slices.Contains(l, [2]int{r.To, arrives}) {
					sum += r.Most
				}
			}
		}
	}
	return sum
}

// eachCut calls a function for each cut: each place may be in it from any day on, or not at all.
func eachCut(t api.Traffic, call func(l [][2]int)) {
	var grow func(place int, l [][2]int)
	grow = func(place int, l [][2]int) {
		if place == t.Places {
			call(l)
			return
		}
		for first := range t.Days + 1 {
			longer := slices.Clone(l)
			for day := first; day < t.Days; day++ {
				longer = append(longer, [2]int{place, day})
			}
			grow(place+1, longer)
		}
	}
	grow(0, nil)
}

// checkFlow checks that Meet and Cut return the same number, which their trips and their cut have, so that it
// is the greatest and the least one, and that CheckTrips and CheckCut find it. It returns this number.
func checkFlow(t *testing.T, x api.Traffic) int {
	t.Helper()
	l, met, e := yard.Meet(x)
	wantError(t, "Meet", e, api.OK)
	if n, e := tripsResult(x, l); n != met || e != api.OK {
		t.Errorf("Meet of %v: %v, %d; its trips meet %d, error %d", x, l, met, n, e)
	}
	n, e := yard.CheckTrips(x, l)
	want(t, "CheckTrips of Meet", n, e, met, api.OK)
	cut, capacity, e := yard.Cut(x)
	wantError(t, "Cut", e, api.OK)
	if !isCut(x, cut) || capacityOf(x, cut) != capacity || capacity != met {
		t.Errorf("Cut of %v: %v, %d; Meet has %d", x, cut, capacity, met)
	}
	n, e = yard.CheckCut(x, cut)
	want(t, "CheckCut of Cut", n, e, capacity, api.OK)
	return met
}

// traffic is a traffic with what it has, what it needs, and its routes.
func traffic(places, days int, has, needs []api.Supply, routes ...api.Route) api.Traffic {
	return api.Traffic{Places: places, Days: days, Routes: routes, Supplies: has, Needs: needs}
}

// P8.7, P8.12: traffics, and how many parts are met; the first one is the chapter's example.
func TestMeet(t *testing.T) {
	five, wanted := supplies(0, 0, 5), supplies(1, 1, 5)
	ways := []api.Route{route(0, 1, 1, 9), route(0, 2, 1, 9)}
	chain := []api.Route{route(0, 1, 1, 3), route(1, 2, 1, 3)}
	much := slices.Repeat(supplies(0, 0, 1000000), 40)
	for i, x := range []struct {
		t     api.Traffic
		right int
	}{
		{theTraffic(), 8},
		{traffic(1, 1, nil, nil), 0},
		{traffic(8, 20, nil, nil), 0},
		// needs of one day take together what is there; parts wait, but not for the day before
		{traffic(1, 1, five, supplies(0, 0, 3, 0, 0, 4)), 5},
		{traffic(1, 1, supplies(0, 0, 5, 0, 0, 2), supplies(0, 0, 9)), 7},
		{traffic(1, 3, supplies(0, 1, 5), supplies(0, 0, 3, 0, 2, 4)), 4},
		// one route, or none, or one that is of no use
		{traffic(2, 2, five, wanted), 0},
		{traffic(2, 2, five, wanted, route(0, 1, 1, 9)), 5},
		{traffic(2, 2, five, wanted, route(1, 0, 1, 9)), 0},
		{traffic(2, 2, five, wanted, route(0, 1, 2, 9)), 0},
		{traffic(2, 2, five, wanted, route(0, 1, 20, 9)), 0},
		{traffic(2, 2, five, wanted, route(0, 1, 1, 0)), 0},
		{traffic(2, 4, supplies(0, 2, 5), supplies(1, 3, 5), route(0, 1, 1, 2)), 2},
		// two routes: side by side, one behind the other, there and back
		{traffic(2, 2, five, wanted, route(0, 1, 1, 2), route(0, 1, 1, 2)), 4},
		{traffic(3, 3, five, supplies(2, 2, 5), chain...), 3},
		{traffic(3, 4, five, supplies(2, 3, 5), chain...), 5},
		{traffic(2, 3, five, supplies(0, 2, 2, 1, 1, 2, 1, 2, 2), route(0, 1, 1, 9), route(1, 0, 1, 9)), 5},
		{traffic(2, 3, five, supplies(0, 2, 3, 1, 1, 2), route(0, 1, 1, 5), route(1, 0, 1, 5)), 5},
		// two ways, of which the first one that is found may be a wrong one
		{traffic(3, 2, five, supplies(1, 1, 4, 2, 1, 4, 0, 0, 1), ways...), 5},
		{traffic(3, 2, supplies(0, 0, 5, 1, 0, 2), supplies(1, 1, 2, 2, 1, 5), ways...), 7},
		{traffic(3, 2, supplies(0, 0, 5, 2, 0, 2), supplies(2, 1, 2, 1, 1, 5), ways...), 7},
		// great numbers
		{traffic(1, 20, much, slices.Repeat(supplies(0, 19, 1000000), 40)), 40000000},
		{traffic(2, 20, much, slices.Repeat(supplies(1, 19, 1000000), 40), route(0, 1, 1, 1000000)), 19000000},
	} {
		if n := checkFlow(t, x.t); n != x.right {
			t.Errorf("Meet of traffic %d: %d, want %d", i, n, x.right)
		}
	}
}

// P8.7, P8.12: traffics of all sorts, compared with all cuts; no trips meet more than a cut has.
func TestMeetByAllCuts(t *testing.T) {
	d := dice()
	some := 0
	for range 1500 {
		x := someTraffic(d, 3, 5, 6)
		least, first := -1, true
		eachCut(x, func(l [][2]int) {
			if n := capacityOf(x, l); first || n < least {
				least, first = n, false
			}
		})
		if n := checkFlow(t, x); n != least {
			t.Errorf("Meet of %v: %d; the least cut has %d", x, n, least)
		}
		if least > 3 {
			some++
		}
	}
	if some < 200 {
		t.Errorf("only %d traffics meet more than three parts", some)
	}
}

// P8.12: traffics that are as large as may be, and others that have many ways.
func TestMeetOfGreatTraffics(t *testing.T) {
	d := dice()
	for i := range 60 {
		x := greatTraffic(d)
		if i%2 == 0 {
			x = someTraffic(d, 8, 20, 1000000)
		}
		checkFlow(t, x)
	}
}

// P8.7: capacities of cuts; the first one is the chapter's example.
func TestCheckCut(t *testing.T) {
	for _, x := range []struct {
		l     [][2]int
		right int
		is    api.Errno
	}{
		{[][2]int{{0, 0}, {0, 1}, {0, 2}}, 8, api.OK},
		{nil, 10, api.OK},
		{[][2]int{{0, 2}}, 10, api.OK},
		{[][2]int{{0, 1}, {0, 2}}, 14, api.OK},
		{[][2]int{{1, 2}}, 19, api.OK},
		{[][2]int{{0, 0}, {0, 1}, {0, 2}, {1, 2}}, 13, api.OK},
		{[][2]int{{0, 0}, {0, 1}, {0, 2}, {1, 1}, {1, 2}}, 9, api.OK},
		{[][2]int{{0, 0}, {0, 1}, {0, 2}, {1, 0}, {1, 1}, {1, 2}}, 9, api.OK},
		{[][2]int{{0, 0}}, 0, api.ErrProof},
		{[][2]int{{0, 0}, {0, 1}}, 0, api.ErrProof},
		{[][2]int{{0, 0}, {0, 2}}, 0, api.ErrProof},
		{[][2]int{{0, 1}, {1, 2}}, 0, api.ErrProof},
		{[][2]int{{0, 2}, {1, 1}}, 0, api.ErrProof},
		{[][2]int{{0, 2}, {0, 2}}, 0, api.ErrOrder},
		{[][2]int{{0, 2}, {0, 1}}, 0, api.ErrOrder},
		{[][2]int{{1, 2}, {0, 2}}, 0, api.ErrOrder},
		{[][2]int{{1, 1}, {0, 2}}, 0, api.ErrOrder}, // the later day does not count
		{[][2]int{{0, 3}}, 0, api.ErrMissing},
		{[][2]int{{2, 0}}, 0, api.ErrMissing},
		{[][2]int{{0, 2}, {0, -1}}, 0, api.ErrMissing}, // and does not ascend
		{[][2]int{{0, 0}, {0, 3}}, 0, api.ErrMissing},  // and is no cut
		{[][2]int{{0, 0}, {0, 0}}, 0, api.ErrOrder},    // and is no cut
		{[][2]int{{1, 2}, {0, 2}, {5, 5}}, 0, api.ErrOrder},
	} {
		n, e := yard.CheckCut(theTraffic(), x.l)
		want(t, fmt.Sprint("CheckCut of ", x.l), n, e, x.right, x.is)
	}
}

// someCut is a cut, or nearly one.
func someCut(d *rand.Rand, t api.Traffic) [][2]int {
	l := [][2]int{}
	for place := range t.Places {
		for day := d.Intn(t.Days + 1); day < t.Days; day++ {
			l = append(l, [2]int{place, day})
		}
	}
	if len(l) > 0 && d.Intn(2) == 0 {
		i := d.Intn(len(l))
		switch d.Intn(3) {
		case 0:
			l = slices.Delete(l, i, i+1)
		case 1:
			l[i][d.Intn(2)] += 1 - 2*d.Intn(2)
		case 2:
			l[0], l[i] = l[i], l[0]
		}
	}
	return l
}

// P8.7, P8.12: cuts of all sorts. No cut has less than the trips meet.
func TestCheckCutByDefinition(t *testing.T) {
	d := dice()
	cuts, wrong := 0, 0
	for range 5000 {
		x := someTraffic(d, 4, 6, 9)
		l := someCut(d, x)
		n, e := yard.CheckCut(x, l)
		if !isCut(x, l) {
			wrong++
			if n != 0 || e != api.ErrMissing && e != api.ErrOrder && e != api.ErrProof {
				t.Errorf("CheckCut of %v, %v: %d, error %d", x, l, n, e)
			}
			continue
		}
		cuts++
		want(t, fmt.Sprint("CheckCut of ", x, l), n, e, capacityOf(x, l), api.OK)
		if _, met, _ := yard.Meet(x); met > n {
			t.Errorf("Meet of %v: %d; the cut %v has %d", x, met, l, n)
		}
	}
	if cuts < 1000 || wrong < 1000 {
		t.Errorf("%d cuts, %d lists that are none", cuts, wrong)
	}
}

// P8.7: the errors of Meet, Cut and CheckCut.
func TestFlowErrors(t *testing.T) {
	inOrder(t, "Meet", func(x input) api.Errno {
		l, n, e := yard.Meet(x.traffic)
		if e != api.OK {
			want(t, "Meet", []any{l, n}, e, []any{[]api.Trip{}, 0}, e)
		}
		return e
	}, trafficFaults()...)
	inOrder(t, "Cut", func(x input) api.Errno {
		l, n, e := yard.Cut(x.traffic)
		if e != api.OK {
			want(t, "Cut", []any{l, n}, e, []any{[][2]int{}, 0}, e)
		}
		return e
	}, trafficFaults()...)
	list := trafficFaults()
	for i := range 2 {
		list = append(list,
			slices.Concat(
				beyond(api.ErrMissing, 0, 2, func(x *input) *int { return &x.cut[i][0] }),
				beyond(api.ErrMissing, 0, 3, func(x *input) *int { return &x.cut[i][1] }),
			))
		if i == 1 {
			list = append(list, one(api.ErrOrder, func(x *input) { x.cut[1] = x.cut[0] }))
		}
	}
	inOrder(t, "CheckCut", func(x input) api.Errno {
		n, e := yard.CheckCut(x.traffic, x.cut)
		if e != api.OK {
			want(t, "CheckCut", n, e, 0, e)
		}
		return e
	}, append(list, []fault{
		{api.ErrOrder, func(x *input) { x.cut = append(x.cut, [2]int{2, 0}) }},
		{api.ErrMissing, func(x *input) { x.cut = append(x.cut, [2]int{2, 4}) }},
	}, one(api.ErrProof, func(x *input) { x.cut = slices.Insert(x.cut, 2, [2]int{1, 2}) }))...)
}
