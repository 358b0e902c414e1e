package layout_test

import (
	"math"
	"slices"
	"testing"

	"putlog/api"
	"putlog/layout"
)

// handLayout is a layout round a square of 1400 that is made by hand: each run has the corner where it begins.
func handLayout() api.Layout {
	l := api.Layout{Corners: []int{1, 1, 1, 1}}
	for i, p := range points(-800, -300, 1700, -800, 2200, 1700, -300, 2200) {
		l.Runs = append(l.Runs, api.Run{Facade: i, Start: p, Length: 2500, Close: api.Closing{Bays: []int{2500}}})
	}
	return l
}

// changed is a deep copy of a layout with a change.
func changed(l api.Layout, change func(*api.Layout)) api.Layout {
	out := api.Layout{Corners: slices.Clone(l.Corners), Runs: slices.Clone(l.Runs)}
	for i, r := range out.Runs {
		out.Runs[i].Close = api.Closing{Bays: slices.Clone(r.Close.Bays), Boards: slices.Clone(r.Close.Boards)}
	}
	change(&out)
	return out
}

// P3.6: what CheckLayout accepts and refuses, each error before those behind it.
func TestCheckLayout(t *testing.T) {
	b, s := block(1400), roundSystem()
	for _, c := range []struct {
		what   string
		change func(*api.Layout)
		want   api.Errno
	}{
		{"the layout", func(l *api.Layout) {}, api.OK},
		{"another closing", func(l *api.Layout) {
			l.Runs[2].Close = api.Closing{Bays: []int{1000, 1000}, Boards: []int{500}}
		}, api.OK},
		{"no corners", func(l *api.Layout) { l.Corners = nil }, api.ErrShape},
		{"five corners", func(l *api.Layout) { l.Corners = append(l.Corners, 7) }, api.ErrShape},
		{"three runs", func(l *api.Layout) { l.Runs = l.Runs[:3] }, api.ErrShape},
		{"five runs", func(l *api.Layout) { l.Runs = append(l.Runs, l.Runs[0]); l.Corners[0] = 2 }, api.ErrShape},
		{"a choice of 2", func(l *api.Layout) { l.Corners[3] = 2; l.Runs[0].Facade = 1 }, api.ErrRange},
		{"a choice of -1", func(l *api.Layout) { l.Corners[0] = -1 }, api.ErrRange},
		{"another facade", func(l *api.Layout) { l.Runs[1].Facade = 2; l.Runs[1].Length = 0 }, api.ErrOrder},
		{"a facade behind a wrong start", func(l *api.Layout) { l.Runs[1].Start.X++; l.Runs[2].Facade = 0 }, api.ErrForm},
		{"a facade before a wrong start", func(l *api.Layout) { l.Runs[2].Start.X++; l.Runs[1].Facade = 0 }, api.ErrOrder},
		{"a start with another X", func(l *api.Layout) { l.Runs[0].Start.X++ }, api.ErrForm},
		{"a start with another Y", func(l *api.Layout) { l.Runs[3].Start.Y-- }, api.ErrForm},
		{"a longer run", func(l *api.Layout) { l.Runs[0].Length += 500; l.Runs[0].Close.Boards = []int{500} }, api.ErrForm},
		{"other choices", func(l *api.Layout) { l.Corners[1] = 0 }, api.ErrForm},
		{"other choices at the end of the first run alone", func(l *api.Layout) {
			l.Corners[0] = 0
			l.Runs[0].Start.X += 500
			l.Runs[0].Length -= 500
			l.Runs[0].Close.Bays = []int{1000, 1000}
		}, api.ErrForm},
		{"an unknown bay", func(l *api.Layout) { l.Runs[0].Close.Bays[0] = 2000 }, api.ErrMissing},
		{"too many bays", func(l *api.Layout) { l.Runs[0].Close.Bays = copies(4001, 1000) }, api.ErrLarge},
		{"bays that ascend", func(l *api.Layout) { l.Runs[0].Close.Bays = []int{1000, 2500} }, api.ErrOrder},
		{"a closing that is too short", func(l *api.Layout) { l.Runs[3].Close.Bays = []int{1000, 1000} }, api.ErrProof},
		{"a closing that is too long", func(l *api.Layout) { l.Runs[3].Close.Boards = []int{500} }, api.ErrProof},
		{"a closing before a wrong start", func(l *api.Layout) { l.Runs[2].Close.Bays = nil; l.Runs[3].Start.X++ }, api.ErrProof},
	} {
		l := changed(handLayout(), c.change)
		wantError(t, c.what, layout.CheckLayout(b, s, l), c.want)
		if c.want == api.OK {
			continue
		}
		cost, e := layout.Total(b, s, l)
		want(t, c.what+": Total", cost, e, api.Cost{}, c.want)
		wantError(t, c.what+": CheckProof", layout.CheckProof(b, s, l, api.Proof{Table: make([]int, 5000)}), c.want)
		boxes, e := layout.Boxes(b, s, l)
		want(t, c.what+": Boxes", boxes, e, []api.Box{}, c.want)
		grid, e := layout.Grid(b, s, l, 9)
		want(t, c.what+": Grid", grid, e, api.Grid{}, c.want)
		scaffold, e := layout.Scaffold(b, s, l)
		want(t, c.what+": Scaffold", scaffold, e, api.Scaffold{}, c.want)
	}
}

// P3.4 and P3.6: the errors of the ring come before those of the layout.
func TestLayoutRingErrors(t *testing.T) {
	low := block(1400)
	low.Roof = 1
	for _, c := range []struct {
		b    api.Building
		s    api.System
		want api.Errno
	}{{api.Building{}, roundSystem(), api.ErrName}, {block(1400), api.System{}, api.ErrShape}, {low, roundSystem(), api.ErrRange}} {
		var l api.Layout
		wantError(t, "CheckLayout", layout.CheckLayout(c.b, c.s, l), c.want)
		wantError(t, "CheckProof", layout.CheckProof(c.b, c.s, l, api.Proof{}), c.want)
		cost, e := layout.Total(c.b, c.s, l)
		want(t, "Total", cost, e, api.Cost{}, c.want)
		boxes, e := layout.Boxes(c.b, c.s, l)
		want(t, "Boxes", boxes, e, []api.Box{}, c.want)
		lifts, e := layout.Lifts(c.b, c.s)
		want(t, "Lifts", lifts, e, []int{}, c.want)
		grid, e := layout.Grid(c.b, c.s, l, 0)
		want(t, "Grid", grid, e, api.Grid{}, c.want)
		scaffold, e := layout.Scaffold(c.b, c.s, l)
		want(t, "Scaffold", scaffold, e, api.Scaffold{}, c.want)
	}
}

// P3.6: the total is the sum of the runs' costs.
func TestTotal(t *testing.T) {
	l := changed(handLayout(), func(l *api.Layout) {
		l.Runs[0].Close = api.Closing{Bays: []int{1000, 1000}, Boards: []int{500}}
		l.Runs[2].Close = api.Closing{Boards: copies(5, 500)}
	})
	got, e := layout.Total(block(1400), roundSystem(), l)
	want(t, "Total", got, e, api.Cost{Odd: 8, Bays: 4}, api.OK)
}

// stub is a Z whose wall between an outer and an inner corner is as long as the scaffold is wide (1), or shorter.
func stub(wall int) api.Building {
	return house(9, 0, 0, 20, 0, 20, 20, 10, 20, 10, 20+wall, 0, 20+wall)
}

// More exactly: runs of the length 0 are empty, those of a negative length are not closed.
func TestEmptyRuns(t *testing.T) {
	s := api.System{Bays: []int{1, 5}, Width: 3, Gap: 1, Lift: 4}
	// Facade 3 leads from the inner corner 3 up to the outer corner 4; with neither of them its run is
	// shorter than the wall by the width.
	for wall, right := range map[int]int{3: 0, 2: -1, 1: -2, 4: 1} {
		n, e := layout.RunLength(stub(wall), s, 3, 0, 1)
		want(t, "RunLength", n, e, right, api.OK)
	}
	l := api.Layout{Corners: []int{1, 1, 1, 0, 1, 1}}
	b := stub(3)
	for i := range 6 {
		begin, end := l.Corners[i], l.Corners[(i+1)%6]
		p, _ := layout.RunStart(b, s, i, begin)
		n, _ := layout.RunLength(b, s, i, begin, end)
		c, e := layout.Close(s, n)
		wantError(t, "Close", e, api.OK)
		l.Runs = append(l.Runs, api.Run{Facade: i, Start: p, Length: n, Close: c})
	}
	want(t, "the empty run", l.Runs[3], api.OK, api.Run{Facade: 3, Start: api.Point{X: 11, Y: 24}}, api.OK)
	wantError(t, "an empty run", layout.CheckLayout(b, s, l), api.OK)
	boxes, e := layout.Boxes(b, s, l)
	if len(boxes) != 5 || e != api.OK {
		t.Errorf("Boxes: %v, %d", boxes, e)
	}
	grid, e := layout.Grid(b, s, l, 3)
	want(t, "Grid of an empty run", grid, e, api.Grid{Facade: 3, Along: []int{4}, Levels: []int{4, 8}}, api.OK)

	b = stub(1)
	l.Runs[3] = api.Run{Facade: 3, Start: api.Point{X: 11, Y: 24}, Length: -2}
	for i := range 6 {
		l.Runs[i].Start, _ = layout.RunStart(b, s, i, l.Corners[i])
		n, _ := layout.RunLength(b, s, i, l.Corners[i], l.Corners[(i+1)%6])
		l.Runs[i].Length = n
		if n >= 0 {
			l.Runs[i].Close, _ = layout.Close(s, n)
		}
	}
	wantError(t, "a run of negative length", layout.CheckLayout(b, s, l), api.ErrProof)
	got, e := layout.Close(s, -2)
	want(t, "Close", got, e, api.Closing{}, api.ErrRange)
	l, p := best(t, b, s)
	wantError(t, "beside a run of negative length", layout.CheckProof(b, s, l, p), api.OK)
	if l.Corners[3] == 0 && l.Corners[4] == 1 {
		t.Errorf("a run of negative length is in a layout")
	}
}

// P3.6: choices that overflow where they are counted with.
func TestCheckLayoutExtremes(t *testing.T) {
	b, s := block(1400), roundSystem()
	for _, n := range []int{math.MinInt, math.MaxInt} {
		wantError(t, "corner", layout.CheckLayout(b, s, changed(handLayout(), func(l *api.Layout) { l.Corners[0] = n })), api.ErrRange)
		wantError(t, "facade", layout.CheckLayout(b, s, changed(handLayout(), func(l *api.Layout) { l.Runs[0].Facade = n })), api.ErrOrder)
		wantError(t, "start", layout.CheckLayout(b, s, changed(handLayout(), func(l *api.Layout) { l.Runs[0].Start.Y = n })), api.ErrForm)
		wantError(t, "length", layout.CheckLayout(b, s, changed(handLayout(), func(l *api.Layout) { l.Runs[0].Length = n })), api.ErrForm)
		wantError(t, "bay", layout.CheckLayout(b, s, changed(handLayout(), func(l *api.Layout) { l.Runs[0].Close.Bays[0] = n })), api.ErrMissing)
	}
}
