package holding_test

import (
	"math"
	"testing"

	"putlog/api"
	"putlog/holding"
)

// widest is a grid with all numbers at their limits.
func widest() api.Grid {
	g := api.Grid{Facade: 39}
	for i := range 60 {
		g.Along = append(g.Along, -1000000+i)
	}
	g.Along[59] = 1000000
	for k := range 30 {
		g.Levels = append(g.Levels, 1+k)
	}
	g.Levels[29] = 1000000
	return g
}

// P6.1: grids.
func TestCheckGrid(t *testing.T) {
	for _, g := range []api.Grid{theGrid(), widest(), {Along: []int{0}, Levels: []int{1}}, {Along: []int{-1}, Levels: []int{1000000}}} {
		wantError(t, "CheckGrid", holding.CheckGrid(g), api.OK)
	}
	for _, x := range []struct {
		is     api.Errno
		change func(g *api.Grid)
	}{
		{api.ErrRange, func(g *api.Grid) { g.Facade = -1 }},
		{api.ErrRange, func(g *api.Grid) { g.Facade = 40 }},
		{api.ErrRange, func(g *api.Grid) { g.Facade = math.MinInt }},
		{api.ErrShape, func(g *api.Grid) { g.Along = nil }},
		{api.ErrShape, func(g *api.Grid) { g.Along = append([]int{-1000000}, g.Along...) }},
		{api.ErrShape, func(g *api.Grid) { g.Levels = []int{} }},
		{api.ErrShape, func(g *api.Grid) { g.Levels = append([]int{1}, g.Levels...) }},
		{api.ErrRange, func(g *api.Grid) { g.Along[0] = -1000001 }},
		{api.ErrRange, func(g *api.Grid) { g.Along[59] = 1000001 }},
		{api.ErrRange, func(g *api.Grid) { g.Along[30] = math.MaxInt }},
		{api.ErrRange, func(g *api.Grid) { g.Levels[0] = 0 }},
		{api.ErrRange, func(g *api.Grid) { g.Levels[29] = 1000001 }},
		{api.ErrRange, func(g *api.Grid) { g.Levels[29] = math.MinInt }},
		{api.ErrOrder, func(g *api.Grid) { g.Along[1] = g.Along[0] }},
		{api.ErrOrder, func(g *api.Grid) { g.Along[59] = g.Along[58] }},
		{api.ErrOrder, func(g *api.Grid) { g.Along[30] = 0 }},
		{api.ErrOrder, func(g *api.Grid) { g.Levels[1] = g.Levels[0] }},
		{api.ErrOrder, func(g *api.Grid) { g.Levels[29] = g.Levels[28] }},
		{api.ErrOrder, func(g *api.Grid) { g.Levels[15] = 20 }},
	} {
		g := widest()
		x.change(&g)
		wantError(t, "CheckGrid of a changed grid", holding.CheckGrid(g), x.is)
	}
}

// P6.1: the order of the errors of a grid. Those of both lists are looked for before any of the next kind.
func TestCheckGridOrder(t *testing.T) {
	inOrder(t, "CheckGrid", func(x input) api.Errno { return holding.CheckGrid(x.grid) },
		[]fault{
			{api.ErrRange, func(x *input) { x.grid.Facade = 40 }},
		},
		[]fault{
			{api.ErrShape, func(x *input) { x.grid.Along = nil }},
			{api.ErrShape, func(x *input) { x.grid.Levels = nil }},
		},
		[]fault{
			{api.ErrRange, func(x *input) { x.grid.Along = []int{5, 4, -1000001} }},
			{api.ErrRange, func(x *input) { x.grid.Levels = []int{5, 4, 0} }},
		},
		[]fault{
			{api.ErrOrder, func(x *input) { x.grid.Along = []int{5, 4, 6} }},
			{api.ErrOrder, func(x *input) { x.grid.Levels = []int{5, 5, 6} }},
		})
}

// P6.1: rules.
func TestCheckRule(t *testing.T) {
	for _, r := range []api.TieRule{theRule(), {Every: 1}, {Every: 1000000, Free: 1000000, Skip: 10, Margin: 1000000, Strength: 1000000}} {
		wantError(t, "CheckRule", holding.CheckRule(r), api.OK)
	}
	for _, change := range []func(r *api.TieRule){
		func(r *api.TieRule) { r.Every = 0 },
		func(r *api.TieRule) { r.Every = -1 },
		func(r *api.TieRule) { r.Every = 1000001 },
		func(r *api.TieRule) { r.Free = -1 },
		func(r *api.TieRule) { r.Free = 1000001 },
		func(r *api.TieRule) { r.Margin = -1 },
		func(r *api.TieRule) { r.Margin = 1000001 },
		func(r *api.TieRule) { r.Strength = -1 },
		func(r *api.TieRule) { r.Strength = 1000001 },
		func(r *api.TieRule) { r.Skip = -1 },
		func(r *api.TieRule) { r.Skip = 11 },
		func(r *api.TieRule) { r.Skip = math.MaxInt },
	} {
		r := theRule()
		change(&r)
		wantError(t, "CheckRule of a changed rule", holding.CheckRule(r), api.ErrRange)
	}
}

// P6.1: the error of ties. There may be as many as the widest grid has places.
func TestTies(t *testing.T) {
	g := widest()
	all := allTies(g)
	if len(all) != 1800 {
		t.Fatalf("%d ties", len(all))
	}
	ask := func(l []api.Tie) api.Errno {
		_, e := holding.Demands(g, theRule(), l)
		return e
	}
	wantError(t, "all ties", ask(all), api.OK)
	wantError(t, "no ties", ask(nil), api.OK)
	wantError(t, "the last tie", ask(ties(59, 29)), api.OK)
	wantError(t, "one more tie", ask(append(allTies(g), ties(60, 0)...)), api.ErrLarge)
	wantError(t, "no such standard", ask(ties(60, 0)), api.ErrMissing)
	wantError(t, "no such level", ask(ties(0, 30)), api.ErrMissing)
	wantError(t, "a standard below 0", ask(ties(math.MinInt, 0)), api.ErrMissing)
	wantError(t, "a level below 0", ask(ties(0, -1)), api.ErrMissing)
	wantError(t, "the same tie again", ask(ties(1, 1, 1, 1)), api.ErrOrder)
	wantError(t, "a lower level", ask(ties(1, 2, 1, 1)), api.ErrOrder)
	wantError(t, "an earlier standard", ask(ties(1, 1, 0, 2)), api.ErrOrder)
	wantError(t, "a later standard with a lower level", ask(ties(0, 2, 1, 1)), api.OK)
	wantError(t, "a wrong order before a missing standard", ask(ties(1, 1, 1, 1, 60, 0)), api.ErrMissing)
}
