package statics_test

import (
	"math"
	"testing"

	"putlog/api"
	"putlog/statics"
)

// P5.1: the frame of the examples, and others, are accepted.
func TestCheck(t *testing.T) {
	wantValid(t, theBracket())
	wantValid(t, api.Frame{})
	wantValid(t, api.Frame{Nodes: []api.Node{node(-1000000, 1000000, 1000000)}})
	d := dice()
	for range 200 {
		wantValid(t, someFrame(d, 6))
	}
	wantValid(t, bigFrame(d, 1000001))
}

// P5.1: what Check refuses, one thing at a time.
func TestCheckErrors(t *testing.T) {
	spring := func(num, den int64) api.Support { return api.Support{Node: 2, Flex: odd(dice(), num, den)} }
	flexed := func(num, den int64) api.Bar { return api.Bar{A: 0, B: 1, Flex: odd(dice(), num, den)} }
	for _, c := range []struct {
		what string
		do   func(f *api.Frame)
		e    api.Errno
	}{
		{"X beyond", func(f *api.Frame) { f.Nodes[2].X = 1000001 }, api.ErrRange},
		{"Y beyond", func(f *api.Frame) { f.Nodes[0].Y = -1000001 }, api.ErrRange},
		{"Z beyond", func(f *api.Frame) { f.Nodes[0].Z = math.MinInt }, api.ErrRange},
		{"the greatest Z", func(f *api.Frame) { f.Nodes[1].Z = 1000000 }, api.OK},
		{"the least X", func(f *api.Frame) { f.Nodes[2].X = -1000000 }, api.OK},
		{"one place twice", func(f *api.Frame) { f.Nodes[2] = f.Nodes[0] }, api.ErrClash},
		{"almost one place", func(f *api.Frame) { f.Nodes[2] = node(0, 0, 3) }, api.OK},
		{"no node A", func(f *api.Frame) { f.Bars[1].A = -1 }, api.ErrMissing},
		{"no node B", func(f *api.Frame) { f.Bars[1].B = 3 }, api.ErrMissing},
		{"no length", func(f *api.Frame) { f.Bars[1].A = 2 }, api.ErrForm},
		{"a bar twice", func(f *api.Frame) { f.Bars[1] = f.Bars[0] }, api.ErrExists},
		{"a bar in both directions", func(f *api.Frame) { f.Bars[1] = bar(2, 0) }, api.ErrExists},
		{"a third bar", func(f *api.Frame) { f.Bars = append(f.Bars, flexed(1, 7)) }, api.OK},
		{"a bar without flexibility", func(f *api.Frame) { f.Bars = append(f.Bars, api.Bar{A: 0, B: 1}) }, api.ErrRange},
		{"a bar of flexibility 0", func(f *api.Frame) { f.Bars = append(f.Bars, flexed(0, 5)) }, api.ErrRange},
		{"a bar of negative flexibility", func(f *api.Frame) { f.Bars = append(f.Bars, flexed(-1, 7)) }, api.ErrRange},
		{"no supported node", func(f *api.Frame) { f.Supports[3].Node = 3 }, api.ErrMissing},
		{"a node before the first", func(f *api.Frame) { f.Supports[3].Node = -1 }, api.ErrMissing},
		{"axis 3", func(f *api.Frame) { f.Supports[6].Axis = 3 }, api.ErrRange},
		{"axis -1", func(f *api.Frame) { f.Supports[6].Axis = -1 }, api.ErrRange},
		{"a support twice", func(f *api.Frame) { f.Supports = append(f.Supports, rigid(2, 1)) }, api.ErrExists},
		{"a spring at a support", func(f *api.Frame) { f.Supports[0] = api.Support{Node: 2, Axis: 1, Flex: r(1, 2)} }, api.ErrExists},
		{"an eighth support", func(f *api.Frame) { f.Supports = append(f.Supports, rigid(2, 0)) }, api.OK},
		{"a spring", func(f *api.Frame) { f.Supports = append(f.Supports, spring(1, 3)) }, api.OK},
		{"a rigid support of any form", func(f *api.Frame) { f.Supports = append(f.Supports, spring(0, 3)) }, api.OK},
		{"a spring that pulls", func(f *api.Frame) { f.Supports = append(f.Supports, spring(-1, 3)) }, api.ErrRange},
		{"no fraction but 0", func(f *api.Frame) { f.Supports[0].Flex = api.Rat{} }, api.OK},
	} {
		f := theBracket()
		c.do(&f)
		wantError(t, c.what, statics.Check(f), c.e)
	}
}

// P5.1: as many nodes, bars and supports as the limits say are accepted, one more is not.
func TestCheckLimits(t *testing.T) {
	f := bigFrame(dice(), 100)
	wantValid(t, f)
	g := f
	g.Nodes = append(g.Nodes[:20:20], node(-1, 0, 0))
	wantError(t, "21 nodes", statics.Check(g), api.ErrLarge)
	g = f
	g.Bars = append(g.Bars[:60:60], bar(0, 0))
	wantError(t, "61 bars", statics.Check(g), api.ErrLarge)
	g = f
	g.Supports = append(g.Supports[:60:60], rigid(99, 0))
	wantError(t, "61 supports", statics.Check(g), api.ErrLarge)
}

// P5.1: of several errors the first one is returned: nodes before bars before supports, and item by item.
func TestCheckOrder(t *testing.T) {
	f := theBracket()
	f.Supports[0].Flex, f.Supports[6].Node = r(-1, 1), 9
	wantError(t, "the first support", statics.Check(f), api.ErrRange)
	f.Supports[1] = rigid(9, 9)
	f.Supports[0].Flex = r(0, 1)
	wantError(t, "no node, no axis", statics.Check(f), api.ErrMissing)
	f.Supports[1] = api.Support{Node: 0, Axis: 0, Flex: r(-1, 1)}
	wantError(t, "twice, and negative", statics.Check(f), api.ErrExists)
	f.Supports[1] = api.Support{Node: 0, Axis: 3, Flex: r(-1, 1)}
	wantError(t, "no axis, and negative", statics.Check(f), api.ErrRange)
	f.Bars[1] = api.Bar{A: 2, B: 0, Flex: r(-1, 1)}
	wantError(t, "bars before supports", statics.Check(f), api.ErrExists)
	f.Bars[1] = api.Bar{A: 9, B: 9}
	wantError(t, "no node, no length", statics.Check(f), api.ErrMissing)
	f.Bars[0] = api.Bar{A: 1, B: 1}
	wantError(t, "the first bar", statics.Check(f), api.ErrForm)
	f.Nodes[2] = f.Nodes[0]
	wantError(t, "nodes before bars", statics.Check(f), api.ErrClash)
	f.Nodes[0].X, f.Nodes[2].X = 1000001, 1000001
	wantError(t, "beyond, and twice", statics.Check(f), api.ErrRange)
	f.Bars = make([]api.Bar, 61)
	wantError(t, "too many bars", statics.Check(f), api.ErrLarge)
}

// P5.1: the errors of loads, after that of the frame.
func TestCheckLoads(t *testing.T) {
	f := theBracket()
	for _, c := range []struct {
		what string
		l    []api.Load
		e    api.Errno
	}{
		{"the load", theLoad(), api.OK},
		{"no load", nil, api.OK},
		{"200 loads", make([]api.Load, 200), api.OK},
		{"201 loads", append(make([]api.Load, 200), load(-1, 0, 0, 0)), api.ErrLarge},
		{"no node", loads(load(3, 0, 0, 0)), api.ErrMissing},
		{"a node before the first", loads(load(-1, 0, 0, 0)), api.ErrMissing},
		{"the greatest forces", loads(load(0, 1000000, -1000000, 1000000)), api.OK},
		{"X beyond", loads(load(0, 1000001, 0, 0)), api.ErrRange},
		{"Y beyond", loads(load(0, 0, -1000001, 0)), api.ErrRange},
		{"Z beyond", loads(load(0, 0, 0, math.MinInt)), api.ErrRange},
		{"no node, and beyond", loads(load(7, 0, 0, 1000001)), api.ErrMissing},
		{"the first one", loads(load(0, 0, 0, 1000001), load(7, 0, 0, 0)), api.ErrRange},
	} {
		wantError(t, c.what, statics.CheckLoads(f, c.l), c.e)
	}
	wantError(t, "no node at all", statics.CheckLoads(api.Frame{}, theLoad()), api.ErrMissing)
	f.Bars[0].Flex = r(0, 1)
	wantError(t, "a wrong frame", statics.CheckLoads(f, make([]api.Load, 201)), api.ErrRange)
}

// P5.1 to P5.9: functions with a frame return its error first, then that of the loads.
func TestErrorsOfFrames(t *testing.T) {
	wrong := theBracket()
	wrong.Nodes[1] = wrong.Nodes[0]
	tooMany := make([]api.Load, 201)
	for _, c := range []struct {
		f api.Frame
		l []api.Load
		e api.Errno
	}{{wrong, tooMany, api.ErrClash}, {theBracket(), tooMany, api.ErrLarge}, {theBracket(), loads(load(3, 0, 0, 0)), api.ErrMissing}} {
		reply, e := statics.Carry(c.f, c.l)
		want(t, "Carry", reply, e, api.Reply{}, c.e)
		wantError(t, "CheckReply", statics.CheckReply(c.f, c.l, api.Reply{Kind: 7}), c.e)
		x, e := statics.Forces(c.f, c.l)
		want(t, "Forces", x, e, nil2(), c.e)
		wantError(t, "CheckForces", statics.CheckForces(c.f, c.l, nil), c.e)
		u, x, e := statics.Displace(c.f, c.l)
		want(t, "Displace", [][]api.Rat{u, x}, e, [][]api.Rat{nil, nil}, c.e)
		collapse, e := statics.LimitLoad(c.f, c.l, nil)
		want(t, "LimitLoad", collapse, e, api.Collapse{}, c.e)
		wantError(t, "CheckCollapse", statics.CheckCollapse(c.f, c.l, nil, api.Collapse{}), c.e)
	}
	wantErrorsOfFrame(t, wrong, api.ErrClash)
}

// nil2 is an empty list.
func nil2() []api.Rat { return nil }

// wantErrorsOfFrame checks that the functions without loads return the error of a frame, whatever else is wrong.
func wantErrorsOfFrame(t *testing.T, f api.Frame, right api.Errno) {
	t.Helper()
	m, e := statics.Matrix(f)
	want(t, "Matrix", m, e, [][]int{}, right)
	n, e := statics.Count(f)
	want(t, "Count", n, e, api.Counting{}, right)
	basis, e := statics.Stresses(f)
	want(t, "Stresses", basis, e, nil2(), right)
	basis, e = statics.Motions(f)
	want(t, "Motions", basis, e, nil2(), right)
	x, e := statics.Energy(f, nil)
	want(t, "Energy", x, e, api.Rat{}, right)
	limits, e := statics.Limits(f, []int{-1}, nil)
	want(t, "Limits", limits, e, nil2(), right)
	i, e := statics.Strong(f, nil, nil)
	want(t, "Strong", i, e, 0, right)
	l, e := statics.Influence(f, make([][]api.Load, 17), -1)
	want(t, "Influence", l, e, nil2(), right)
	worst, e := statics.Worst(f, make([][]api.Load, 17))
	want(t, "Worst", worst, e, nil2(), right)
	basis, e = statics.Stiffness(f, nil)
	want(t, "Stiffness", basis, e, nil2(), right)
	is, e := statics.Stable(f, nil)
	want(t, "Stable", is, e, false, right)
	out, e := statics.DeckLoads(f, nil, -1)
	want(t, "DeckLoads", out, e, nil2(), right)
	out, e = statics.WindLoads(f, nil, make([]api.Wind, 101))
	want(t, "WindLoads", out, e, nil2(), right)
}
