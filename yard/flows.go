package yard

import (
	"slices"

	"putlog/api"
)

// Meet returns trips that meet as many parts as possible, and their number.
func Meet(t api.Traffic) ([]api.Trip, int, api.Errno) {
	if e := CheckTraffic(t); e != api.OK {
		return nil, 0, e
	}
	n := networkOf(t)
	sum := n.fill()
	var out []api.Trip
	for i, trip := range allTrips(t) {
		trip.Count = n.flow(i)
		if trip.Count > 0 {
			out = append(out, trip)
		}
	}
	return out, sum, api.OK
}

// A network is the ways of parts, as arcs between knots: one knot for each place and day, one for what
// supplies them all, and one for what needs them all.
type network struct {
	arcs         []arc   // the one of number 2 i + 1 goes back along that of number 2 i
	from         [][]int // the numbers of the arcs that begin at a knot
	source, sink int
}

// An arc can take so many parts more.
type arc struct{ from, to, room int }

// unlimited is more parts than a traffic can have.
const unlimited = (api.MaxSupplies + 1) * api.MaxCount

// networkOf returns the network of a traffic without any flow. Its first arcs are those of all trips.
func networkOf(t api.Traffic) *network {
	knots := t.Places * t.Days
	n := &network{from: make([][]int, knots+2), source: knots, sink: knots + 1}
	for _, trip := range allTrips(t) {
		n.join(knotOf(t, leaving(t, trip)), knotOf(t, arriving(t, trip)), trip.Count)
	}
	for place := range t.Places {
		for day := range t.Days - 1 {
			n.join(knotOf(t, spot{place, day}), knotOf(t, spot{place, day + 1}), unlimited)
		}
	}
	for _, s := range t.Supplies {
		n.join(n.source, knotOf(t, ofSupply(s)), s.Count)
	}
	for _, s := range t.Needs {
		n.join(knotOf(t, ofSupply(s)), n.sink, s.Count)
	}
	return n
}

// knotOf returns the knot of a place and day.
func knotOf(t api.Traffic, at spot) int { return at[0]*t.Days + at[1] }

// join adds an arc, and the one back.
func (n *network) join(from, to, room int) {
	for _, a := range []arc{{from, to, room}, {to, from, 0}} {
		n.from[a.from] = append(n.from[a.from], len(n.arcs))
		n.arcs = append(n.arcs, a)
	}
}

// flow returns how many parts go along the arc that was added as number i.
func (n *network) flow(i int) int { return n.arcs[2*i+1].room }

// fill sends as many parts as possible from the source to the sink, and returns their number. It takes
// shortest ways, of which there are few whatever the counts.
func (n *network) fill() int {
	sum := 0
	for {
		way := n.wayTo(n.reached())
		if len(way) == 0 {
			return sum
		}
		count := unlimited
		for _, a := range way {
			count = min(count, n.arcs[a].room)
		}
		for _, a := range way {
			n.arcs[a].room -= count
			n.arcs[a^1].room += count
		}
		sum += count
	}
}

// unreached stands for the arc where there is none.
const unreached = -1

// reached returns for each knot the last arc of a shortest way from the source with room for more parts.
func (n *network) reached() []int {
	last := slices.Repeat([]int{unreached}, len(n.from))
	for queue := []int{n.source}; len(queue) > 0; queue = queue[1:] {
		for _, a := range n.from[queue[0]] {
			to := n.arcs[a].to
			if n.arcs[a].room > 0 && to != n.source && last[to] == unreached {
				last[to] = a
				queue = append(queue, to)
			}
		}
	}
	return last
}

// wayTo returns the arcs of the way to the sink, the last one first; none if it is not reached.
func (n *network) wayTo(last []int) []int {
	var way []int
	for k := n.sink; last[k] != unreached; k = n.arcs[last[k]].from {
		way = append(way, last[k])
	}
	return way
}
