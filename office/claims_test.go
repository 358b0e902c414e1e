package office_test

import (
	"math"
	"slices"
	"strconv"
	"testing"

	"putlog/api"
	"putlog/erection"
	"putlog/exact"
	"putlog/layout"
	"putlog/office"
	"putlog/statics"
	"putlog/yard"
)

// theClaims is a right claim of each kind; the fields that it does not name are all wrong.
func theClaims(t *testing.T) []api.Claim {
	t.Helper()
	out := make([]api.Claim, 9)
	for kind := range out {
		out[kind] = junk(kind)
	}
	frameClaims(t, out)
	layoutClaims(t, out)
	p := api.Program{A: [][]api.Rat{{exact.Whole(1), exact.Whole(1)}, {exact.Whole(1), exact.Whole(0)}}, B: []api.Rat{exact.Whole(4), exact.Whole(3)}, C: []api.Rat{exact.Whole(3), exact.Whole(2)}}
	o, e := exact.Optimize(p)
	wantError(t, "Optimize", e, api.OK)
	out[api.ClaimOptimum].Program, out[api.ClaimOptimum].Optimum = p, o

	l := []api.Task{{Name: "a", Trade: "x", Needs: []int{1}}, {Name: "b", Trade: "x"}}
	order, e := erection.Order(l)
	wantError(t, "Order", e, api.OK)
	out[api.ClaimOrder].Tasks, out[api.ClaimOrder].Numbers = l, order

	traffic := theTraffic()
	trips, met, e := yard.Meet(traffic)
	wantError(t, "Meet", e, api.OK)
	out[api.ClaimTrips].Traffic, out[api.ClaimTrips].Trips, out[api.ClaimTrips].Number = traffic, trips, met
	cut, capacity, e := yard.Cut(traffic)
	wantError(t, "Cut", e, api.OK)
	out[api.ClaimCut].Traffic, out[api.ClaimCut].Cut, out[api.ClaimCut].Number = traffic, cut, capacity
	return out
}

// theTraffic is the traffic of chapter 8's example.
func theTraffic() api.Traffic {
	return api.Traffic{
		Places: 2, Days: 3,
		Routes:   []api.Route{{From: 0, To: 1, Days: 1, Most: 4}},
		Supplies: []api.Supply{{Place: 0, Day: 0, Count: 10}},
		Needs:    []api.Supply{{Place: 1, Day: 2, Count: 9}},
	}
}

// frameClaims makes the claims about chapter 5's bracket.
func frameClaims(t *testing.T, out []api.Claim) {
	t.Helper()
	f := api.Frame{Nodes: []api.Node{{}, {Z: 4}, {X: 3}}, Bars: []api.Bar{{A: 0, B: 2, Flex: exact.Whole(1)}, {A: 1, B: 2, Flex: exact.Whole(1)}}}
	for n := range 2 {
		for axis := range 3 {
			f.Supports = append(f.Supports, api.Support{Node: n, Axis: axis})
		}
	}
	f.Supports = append(f.Supports, api.Support{Node: 2, Axis: 1})
	loads := []api.Load{{Node: 2, Z: -12}}
	reply, e := statics.Carry(f, loads)
	wantError(t, "Carry", e, api.OK)
	forces, e := statics.Forces(f, loads)
	wantError(t, "Forces", e, api.OK)
	ranges := []api.Range{{Low: exact.Whole(-1), High: exact.Whole(2)}, {Low: exact.Whole(-2), High: exact.Whole(2)}}
	collapse, e := statics.LimitLoad(f, loads, ranges)
	wantError(t, "LimitLoad", e, api.OK)
	for _, kind := range []int{api.ClaimReply, api.ClaimForces, api.ClaimCollapse} {
		out[kind].Frame, out[kind].Loads = f, loads
	}
	out[api.ClaimReply].Reply = reply
	out[api.ClaimForces].Forces = forces
	out[api.ClaimCollapse].Ranges, out[api.ClaimCollapse].Collapse = ranges, collapse
}

// layoutClaims makes the claims about a closing and a layout.
func layoutClaims(t *testing.T, out []api.Claim) {
	t.Helper()
	s := api.System{Bays: []int{1000, 2500}, Boards: []int{500}, Width: 500, Gap: 250, Lift: 2000}
	closing, e := layout.Close(s, 4000)
	wantError(t, "Close", e, api.OK)
	out[api.ClaimClosing].System, out[api.ClaimClosing].Number, out[api.ClaimClosing].Closing = s, 4000, closing
	b := theJob().Building
	l, p, e := layout.Best(b, s)
	wantError(t, "Best", e, api.OK)
	c := &out[api.ClaimLayout]
	c.Building, c.System, c.Layout, c.Proof = b, s, l, p
}

// junk is a claim of a kind with fields that no function accepts.
func junk(kind int) api.Claim {
	return api.Claim{
		Kind: kind, Number: -5,
		Program: api.Program{A: make([][]api.Rat, 61)}, Optimum: api.Optimum{Kind: 9},
		Frame: api.Frame{Nodes: make([]api.Node, 2)}, Loads: make([]api.Load, 201), Reply: api.Reply{Kind: 9}, Forces: make([]api.Rat, 3),
		Ranges: make([]api.Range, 3), Collapse: api.Collapse{Motion: make([]api.Rat, 2)},
		Building: api.Building{Roof: -1}, System: api.System{Width: -1}, Closing: api.Closing{Bays: []int{-1}}, Layout: api.Layout{Corners: []int{3}}, Proof: api.Proof{Table: make([]int, 5000)},
		Tasks: make([]api.Task, 2), Numbers: []int{7},
		Traffic: api.Traffic{Places: -1}, Trips: make([]api.Trip, 2), Cut: make([][2]int, 2),
	}
}

// P10.4: right claims.
func TestRightClaims(t *testing.T) {
	for kind, c := range theClaims(t) {
		wantError(t, "Verify of kind "+strconv.Itoa(kind), office.Verify(c), api.OK)
	}
}

// P10.4: kinds that there are not.
func TestKindsOfClaims(t *testing.T) {
	for _, kind := range []int{-1, 9, 10, math.MinInt, math.MaxInt} {
		for _, c := range theClaims(t) {
			c.Kind = kind
			wantError(t, "Verify of kind "+strconv.Itoa(kind), office.Verify(c), api.ErrRange)
		}
	}
	is := []api.Errno{api.ErrLarge, api.ErrClash, api.ErrClash, api.ErrClash, api.ErrShape, api.ErrName, api.ErrName, api.ErrRange, api.ErrRange}
	for kind := range is {
		wantError(t, "Verify of junk", office.Verify(junk(kind)), is[kind])
	}
}

// P10.4: wrong claims, with the errors of the functions that look at them.
func TestWrongClaims(t *testing.T) {
	for i, c := range []struct {
		kind  int
		is    api.Errno
		spoil func(c *api.Claim)
	}{
		{0, api.ErrProof, func(c *api.Claim) { c.Optimum.Value = exact.Whole(12) }},
		{0, api.ErrShape, func(c *api.Claim) { c.Program.B = nil }},
		{1, api.ErrProof, func(c *api.Claim) { c.Reply.Forces[0] = exact.Whole(1) }},
		{1, api.ErrMissing, func(c *api.Claim) { c.Loads[0].Node = 3 }},
		{1, api.ErrExists, func(c *api.Claim) { c.Frame.Bars[1] = c.Frame.Bars[0] }},
		{2, api.ErrProof, func(c *api.Claim) { c.Forces[1] = exact.Whole(1) }},
		{2, api.ErrShape, func(c *api.Claim) { c.Forces = c.Forces[1:] }},
		{2, api.ErrMissing, func(c *api.Claim) { c.Loads[0].Node = 3 }},
		{3, api.ErrProof, func(c *api.Claim) { c.Collapse.Factor = exact.Whole(1) }},
		{3, api.ErrShape, func(c *api.Claim) { c.Ranges = nil }},
		{3, api.ErrOrder, func(c *api.Claim) { c.Ranges[0].Low = exact.Whole(3) }},
		{4, api.ErrProof, func(c *api.Claim) { c.Number = 4500 }},
		{4, api.ErrMissing, func(c *api.Claim) { c.Closing.Bays[0] = 2000 }},
		{4, api.ErrRange, func(c *api.Claim) { c.System.Gap = -1 }},
		{5, api.ErrProof, func(c *api.Claim) { c.Proof.Table[1] = 30000 }},
		{5, api.ErrLarge, func(c *api.Claim) { c.Proof.Table = make([]int, 4002) }},
		{5, api.ErrShape, func(c *api.Claim) { c.Layout.Corners = nil }},
		{5, api.ErrOrder, func(c *api.Claim) { c.Layout.Runs[2].Facade, c.Proof.Table = 3, make([]int, 4002) }},
		{5, api.ErrName, func(c *api.Claim) { c.Building.Name = "" }},
		{6, api.ErrOrder, func(c *api.Claim) { slices.Reverse(c.Numbers) }},
		{6, api.ErrShape, func(c *api.Claim) { c.Numbers = c.Numbers[:1] }},
		{6, api.ErrCycle, func(c *api.Claim) { c.Tasks[1].Needs = []int{0} }},
		{7, api.ErrProof, func(c *api.Claim) { c.Number = 9 }},
		{7, api.ErrProof, func(c *api.Claim) { c.Number = 7 }},
		{7, api.ErrProof, func(c *api.Claim) { c.Trips = c.Trips[1:] }},
		{7, api.ErrLimit, func(c *api.Claim) { c.Trips[0].Count = 5 }},
		{7, api.ErrLimit, func(c *api.Claim) { c.Trips[0].Count, c.Number = 5, 0 }},
		{7, api.ErrRange, func(c *api.Claim) { c.Traffic.Days, c.Number = 0, 0 }},
		{8, api.ErrProof, func(c *api.Claim) { c.Number = 9 }},
		{8, api.ErrProof, func(c *api.Claim) { c.Number = 0 }},
		{8, api.ErrProof, func(c *api.Claim) { c.Cut = [][2]int{{0, 0}} }},
		{8, api.ErrProof, func(c *api.Claim) { c.Cut = nil }},
		{8, api.ErrMissing, func(c *api.Claim) { c.Cut[0][0], c.Number = -1, 0 }},
	} {
		claim := theClaims(t)[c.kind]
		c.spoil(&claim)
		wantError(t, "Verify of wrong claim "+strconv.Itoa(i), office.Verify(claim), c.is)
	}
	// A cut that is right, but has another capacity; with this capacity it is right.
	c := theClaims(t)[8]
	c.Cut = nil
	c.Number = 10
	wantError(t, "Verify of the empty cut", office.Verify(c), api.OK)
	// Trips that are right and meet less.
	c = theClaims(t)[7]
	c.Trips, c.Number = nil, 0
	wantError(t, "Verify of no trips", office.Verify(c), api.OK)
}

// P10.4: claims of the second form of a certificate.
func TestOtherClaims(t *testing.T) {
	c := theClaims(t)[1]
	c.Frame.Supports = c.Frame.Supports[:6]
	c.Loads[0] = api.Load{Node: 2, Y: 5}
	reply, e := statics.Carry(c.Frame, c.Loads)
	want(t, "Carry", reply.Kind, e, 1, api.OK)
	c.Reply = reply
	wantError(t, "Verify of a motion", office.Verify(c), api.OK)
	c.Kind = 2
	wantError(t, "Verify of forces that there are not", office.Verify(c), api.ErrShape)
	c = theClaims(t)[0]
	c.Program.B[1] = exact.Whole(-1)
	o, e := exact.Optimize(c.Program)
	want(t, "Optimize", o.Kind, e, 1, api.OK)
	wantError(t, "Verify of another optimum", office.Verify(c), api.ErrProof)
	c.Optimum = o
	wantError(t, "Verify of a contradiction", office.Verify(c), api.OK)
}
