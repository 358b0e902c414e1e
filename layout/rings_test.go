package layout_test

import (
	"math"
	"testing"

	"putlog/api"
	"putlog/building"
	"putlog/layout"
)

// P3.4: what CheckRing refuses, each before what is behind it.
func TestCheckRing(t *testing.T) {
	s := theSystem()
	wantError(t, "the square", layout.CheckRing(square(), s), api.OK)
	wantError(t, "the L", layout.CheckRing(theL(), s), api.OK)
	wantError(t, "no building, no system", layout.CheckRing(api.Building{}, api.System{}), api.ErrName)
	wantError(t, "no storeys", layout.CheckRing(api.Building{Name: "a"}, s), api.ErrShape)
	b := square()
	b.Roof = 1999
	wantError(t, "a low house, no system", layout.CheckRing(b, api.System{}), api.ErrShape)
	wantError(t, "a low house", layout.CheckRing(b, s), api.ErrRange)
	b.Roof = 2000
	wantError(t, "one deck", layout.CheckRing(b, s), api.OK)
	b.Roof = 81999
	wantError(t, "40 decks", layout.CheckRing(b, s), api.OK)
	b.Roof = 82000
	wantError(t, "41 decks", layout.CheckRing(b, s), api.ErrLarge)
}

// P3.4: rings that clash with the building itself, or with the end of the coordinates.
func TestCheckRingOffset(t *testing.T) {
	s := bays(1000) // it needs 300 for the gap, and 1000 with the width
	niche := func(width int) api.Building {
		return house(4500, 0, 0, 3000+width, 0, 3000+width, 3000, 1500+width, 3000, 1500+width, 1500, 1500, 1500, 1500, 3000, 0, 3000)
	}
	wantError(t, "a wide niche", layout.CheckRing(niche(2001), s), api.OK)
	wantError(t, "a niche for no width", layout.CheckRing(niche(2000), s), api.ErrClash)
	wantError(t, "a niche for no gap", layout.CheckRing(niche(600), s), api.ErrClash)
	far := func(x int) api.Building { return house(4500, x-4000, 0, x, 0, x, 4000, x-4000, 4000) }
	wantError(t, "up to the end", layout.CheckRing(far(999000), s), api.OK)
	wantError(t, "beyond the end", layout.CheckRing(far(999001), s), api.ErrClash)
	b := far(999001)
	b.Roof = 82000
	wantError(t, "too high, and beyond the end", layout.CheckRing(b, s), api.ErrLarge)
}

// P3.4: boxes in the way of runs that have both of their corners, up to the top frame.
func TestCheckRingBoxes(t *testing.T) {
	for _, c := range []struct {
		what string
		box  api.Box
		want api.Errno
	}{
		{"within the gap", box(4000, 0, 0, 4300, 4000, 9000), api.OK},
		{"into the run", box(4000, 0, 0, 4301, 4000, 9000), api.ErrClash},
		{"outside", box(5000, -2000, 0, 6000, 6000, 9000), api.OK},
		{"from outside", box(4999, 1000, 0, 6000, 1001, 9000), api.ErrClash},
		{"above the top frame", box(4300, 0, 6000, 5000, 4000, 9000), api.OK},
		{"under the top frame", box(4300, 0, 5999, 5000, 4000, 9000), api.ErrClash},
		{"under the ground", box(4300, 0, -5, 5000, 4000, 0), api.OK},
		{"over the ground", box(4300, 0, -5, 5000, 4000, 1), api.ErrClash},
		{"in a corner", box(4999, 4999, 0, 6000, 6000, 1), api.ErrClash},
		{"beside a corner", box(5000, 4999, 0, 6000, 6000, 1), api.OK},
	} {
		b := square()
		b.Boxes = []api.Box{box(9000, 0, 0, 9001, 1, 1), c.box}
		wantError(t, c.what, layout.CheckRing(b, theSystem()), c.want)
	}
}

// P3.4: the errors of CheckRing are those of the functions that ask for a run.
func TestRunErrors(t *testing.T) {
	b, s := square(), theSystem()
	for _, c := range []struct {
		b                  api.Building
		s                  api.System
		facade, begin, end int
		start, length      api.Errno
	}{
		{b, s, 4, 0, 0, api.ErrMissing, api.ErrMissing},
		{b, s, -1, 2, 2, api.ErrMissing, api.ErrMissing},
		{b, s, math.MaxInt, 0, 0, api.ErrMissing, api.ErrMissing},
		{b, s, math.MinInt, 0, 0, api.ErrMissing, api.ErrMissing},
		{b, s, 3, 2, 0, api.ErrRange, api.ErrRange},
		{b, s, 3, -1, 0, api.ErrRange, api.ErrRange},
		{b, s, 3, 0, 2, api.OK, api.ErrRange},
		{b, s, 3, 0, -1, api.OK, api.ErrRange},
		{b, api.System{}, 9, 9, 9, api.ErrShape, api.ErrShape},
		{api.Building{}, s, 9, 9, 9, api.ErrName, api.ErrName},
	} {
		p, e := layout.RunStart(c.b, c.s, c.facade, c.begin)
		if c.start == api.OK {
			want(t, "RunStart", p, e, api.Point{X: -300, Y: 4300}, api.OK)
		} else {
			want(t, "RunStart", p, e, api.Point{}, c.start)
		}
		n, e := layout.RunLength(c.b, c.s, c.facade, c.begin, c.end)
		want(t, "RunLength", n, e, 0, c.length)
	}
}

// P3.4: the chapter's runs round a square.
func TestRunExamples(t *testing.T) {
	for facade := range 4 {
		for c, right := range map[[2]int]int{{0, 1}: 4600, {0, 0}: 5300, {1, 1}: 5300, {1, 0}: 6000} {
			n, e := layout.RunLength(square(), theSystem(), facade, c[0], c[1])
			want(t, "RunLength", n, e, right, api.OK)
		}
	}
	p, e := layout.RunStart(square(), theSystem(), 0, 1)
	want(t, "RunStart with the corner", p, e, api.Point{X: -1000, Y: -300}, api.OK)
	p, e = layout.RunStart(square(), theSystem(), 0, 0)
	want(t, "RunStart without the corner", p, e, api.Point{X: -300, Y: -300}, api.OK)
	// The inner corner of the L is that between its facades 2 and 3.
	for c, right := range map[[2]int]int{{0, 1}: 4300, {0, 0}: 5000, {1, 1}: 5000, {1, 0}: 5700} {
		n, e := layout.RunLength(theL(), theSystem(), 2, c[0], c[1])
		want(t, "RunLength towards the inner corner", n, e, right, api.OK)
		n, e = layout.RunLength(theL(), theSystem(), 3, c[0], c[1])
		want(t, "RunLength from the inner corner", n, e, right, api.OK)
	}
	p, e = layout.RunStart(theL(), theSystem(), 3, 1)
	want(t, "RunStart with the inner corner", p, e, api.Point{X: 4300, Y: 4300}, api.OK)
	p, e = layout.RunStart(theL(), theSystem(), 3, 0)
	want(t, "RunStart without the inner corner", p, e, api.Point{X: 4300, Y: 5000}, api.OK)
}

// ringError is the error of CheckRing for what is a building and a system.
func ringError(t *testing.T, b api.Building, s api.System) api.Errno {
	if s.Lift > b.Roof {
		return api.ErrRange
	}
	if b.Roof >= 41*s.Lift {
		return api.ErrLarge
	}
	for _, d := range []int{s.Gap, s.Gap + s.Width} {
		if _, e := building.Offset(b.Storeys[0].Outline, d); e != api.OK {
			return api.ErrClash
		}
	}
	top := s.Lift
	for top <= b.Roof {
		top += s.Lift
	}
	for i := range b.Storeys[0].Outline {
		r := runOf(t, b, s, i, 1, 0)
		run := box(min(r.from.X, r.outer.X), min(r.from.Y, r.outer.Y), 0, max(r.from.X, r.outer.X), max(r.from.Y, r.outer.Y), top)
		for _, x := range b.Boxes {
			if is, e := building.Overlap(run, x); is || e != api.OK {
				return api.ErrClash
			}
		}
	}
	return api.OK
}

// P3.4: rings and runs of many houses, read off the parallel outlines.
func TestRunsOfHouses(t *testing.T) {
	d := dice()
	found := map[api.Errno]int{}
	for range 2000 {
		b, s := someHouse(d), someSystem(d, 1)
		right := ringError(t, b, s)
		found[right]++
		wantError(t, "CheckRing", layout.CheckRing(b, s), right)
		for facade := range b.Storeys[0].Outline {
			begin, end := d.Intn(2), d.Intn(2)
			p, e := layout.RunStart(b, s, facade, begin)
			n, f := layout.RunLength(b, s, facade, begin, end)
			if right != api.OK {
				want(t, "RunStart", p, e, api.Point{}, right)
				want(t, "RunLength", n, f, 0, right)
				break
			}
			r := runOf(t, b, s, facade, begin, end)
			want(t, "RunStart", p, e, r.from, api.OK)
			want(t, "RunLength", n, f, r.length, api.OK)
		}
	}
	if found[api.OK] < 200 || found[api.ErrClash] < 200 || found[api.ErrRange] < 50 {
		t.Errorf("too few of a kind: %v", found)
	}
}
