package layout_test

import (
	"math"
	"testing"

	"putlog/api"
	"putlog/building"
	"putlog/layout"
)

// P3.7: the boxes, lifts and grids of a layout that is made by hand.
func TestSpaceByHand(t *testing.T) {
	b, s := block(1400), roundSystem()
	l := changed(handLayout(), func(l *api.Layout) {
		l.Runs[2].Close = api.Closing{Bays: []int{1000}, Boards: []int{500, 500, 500}}
	})
	boxes, e := layout.Boxes(b, s, l)
	want(t, "Boxes", boxes, e, []api.Box{
		box(-800, -800, 0, 1700, -300, 6000), box(1700, -800, 0, 2200, 1700, 6000),
		box(-300, 1700, 0, 2200, 2200, 6000), box(-800, -300, 0, -300, 2200, 6000),
	}, api.OK)
	lifts, e := layout.Lifts(b, s)
	want(t, "Lifts", lifts, e, []int{2000, 4000}, api.OK)
	grid, e := layout.Grid(b, s, l, 0)
	want(t, "Grid of facade 0", grid, e, api.Grid{Facade: 0, Along: []int{-800, 1700}, Levels: []int{2000, 4000}}, api.OK)
	grid, e = layout.Grid(b, s, l, 2)
	want(t, "Grid of facade 2", grid, e, api.Grid{Facade: 2, Along: []int{-800, 200, 700, 1200, 1700}, Levels: []int{2000, 4000}}, api.OK)
	for _, facade := range []int{-1, 4, math.MinInt, math.MaxInt} {
		grid, e = layout.Grid(b, s, l, facade)
		want(t, "Grid of no facade", grid, e, api.Grid{}, api.ErrMissing)
	}
}

// P3.7: decks up to the roof at most.
func TestLifts(t *testing.T) {
	for roof, n := range map[int]int{2000: 1, 3999: 1, 4000: 2, 4001: 2, 81999: 40} {
		var right []int
		for i := range n {
			right = append(right, 2000*(i+1))
		}
		b := square()
		b.Roof = roof
		got, e := layout.Lifts(b, theSystem())
		want(t, "Lifts", got, e, right, api.OK)
	}
	got, e := layout.Lifts(square(), bays(2, 1))
	want(t, "Lifts of no system", got, e, []int{}, api.ErrOrder)
}

// heights is the heights of the decks.
func heights(b api.Building, s api.System) []int {
	var out []int
	for z := s.Lift; z <= b.Roof; z += s.Lift {
		out = append(out, z)
	}
	return out
}

// P3.7: boxes, lifts and grids of many layouts.
func TestSpaceOfAll(t *testing.T) {
	next := someRound(t, 1)
	for range 300 {
		r := next()
		l, _, e := layout.Best(r.b, r.s)
		if e != api.OK {
			continue
		}
		decks := heights(r.b, r.s)
		lifts, e := layout.Lifts(r.b, r.s)
		want(t, "Lifts", lifts, e, decks, api.OK)
		var boxes []api.Box
		for i, run := range l.Runs {
			where := runOf(t, r.b, r.s, i, l.Corners[i], l.Corners[(i+1)%len(l.Corners)])
			if where.length > 0 {
				p, q := where.from, where.outer
				boxes = append(boxes, box(min(p.X, q.X), min(p.Y, q.Y), 0, max(p.X, q.X), max(p.Y, q.Y), decks[len(decks)-1]+r.s.Lift))
			}
			w, _ := building.Walls(r.b.Storeys[0].Outline)
			at := w[i].From
			first := []int{where.from.X - at.X, where.from.Y - at.Y, at.X - where.from.X, at.Y - where.from.Y}[w[i].Dir]
			right := api.Grid{Facade: i, Along: []int{first}, Levels: decks}
			for _, n := range append(append([]int{}, run.Close.Bays...), run.Close.Boards...) {
				first += n
				right.Along = append(right.Along, first)
			}
			grid, e := layout.Grid(r.b, r.s, l, i)
			want(t, "Grid", grid, e, right, api.OK)
		}
		got, e := layout.Boxes(r.b, r.s, l)
		want(t, "Boxes", got, e, boxes, api.OK)
	}
}
