package holding_test

import (
	"math/rand"
	"slices"
	"testing"

	"putlog/api"
	"putlog/building"
	"putlog/holding"
)

// placesAt lists the places that Possible finds on facade 0 of a building at positions and heights.
func placesAt(t *testing.T, b api.Building, margin int, along, levels []int) []api.Tie {
	t.Helper()
	r := theRule()
	r.Margin = margin
	l, e := holding.Possible(b, api.Grid{Along: along, Levels: levels}, r)
	wantError(t, "Possible", e, api.OK)
	return l
}

// P6.2: places are on the wall: within the facade, below the roof, and on the storey's own outline.
func TestPossibleOnTheWall(t *testing.T) {
	b := theHouse()
	b.Openings = nil
	heights := []int{1, 2999, 3000, 5999, 6000, 6001}
	for _, x := range []struct{ along, levels int }{{-1, 0}, {0, 4}, {2000, 4}, {2001, 2}, {4000, 2}, {4001, 0}} {
		right := allTies(even(1, x.levels))
		want(t, "Possible", placesAt(t, b, 0, []int{x.along}, heights), 0, right, 0)
	}
	l, e := holding.Possible(b, api.Grid{Facade: 1, Along: []int{0, 3000}, Levels: []int{2999, 3000}}, theRule())
	want(t, "Possible where the upper storey stands back", l, e, ties(0, 0, 1, 0), api.OK)
	l, e = holding.Possible(b, api.Grid{Facade: 3, Along: []int{0, 3000}, Levels: []int{2999, 3000}}, theRule())
	want(t, "Possible where both storeys stand", l, e, ties(0, 0, 0, 1, 1, 0, 1, 1), api.OK)
}

// P6.2: places are as far from openings as the margin, or farther; in one direction is enough.
func TestPossibleNearOpenings(t *testing.T) {
	b := theHouse()
	inside := []int{1500}
	want(t, "Possible beside", placesAt(t, b, 100, []int{399, 400, 401, 1599, 1600, 1601}, inside), 0, ties(0, 0, 1, 0, 4, 0, 5, 0), 0)
	want(t, "Possible above and below", placesAt(t, b, 100, []int{1000}, []int{799, 800, 801, 2199, 2200, 2201}), 0, ties(0, 0, 0, 1, 0, 4, 0, 5), 0)
	want(t, "Possible without a margin", placesAt(t, b, 0, []int{499, 500, 501, 1499, 1500}, inside), 0, ties(0, 0, 1, 0, 4, 0), 0)
	want(t, "Possible without a margin", placesAt(t, b, 0, []int{1000}, []int{900, 901, 2099, 2100}), 0, ties(0, 0, 0, 3), 0)
	b.Openings = append(b.Openings, api.Opening{Storey: 1, From: 0, To: 300, Bottom: 1000, Top: 1200})
	want(t, "Possible in the upper storey", placesAt(t, b, 50, []int{0, 349, 350}, []int{3950, 3951, 4249, 4250}), 0, ties(0, 0, 0, 3, 1, 0, 1, 3, 2, 0, 2, 1, 2, 2, 2, 3), 0)
	b.Openings = []api.Opening{{Wall: 1, From: 0, To: 3000, Top: 3000}}
	want(t, "Possible beside another facade's opening", placesAt(t, b, 10000, []int{0, 4000}, inside), 0, ties(0, 0, 1, 0), 0)
}

// P6.2: openings of another storey's side on the same line count where they are, also beyond the facade.
func TestPossibleBesideTheFacade(t *testing.T) {
	b := api.Building{Name: "u", Roof: 6000, Storeys: []api.Storey{{Outline: []api.Point{
		{}, {X: 1000}, {X: 1000, Y: 500}, {X: 3000, Y: 500}, {X: 3000}, {X: 4000}, {X: 4000, Y: 2000}, {Y: 2000},
	}}}}
	b.Openings = []api.Opening{{Wall: 4, From: 100, To: 900, Bottom: 1000, Top: 2000}}
	wantError(t, "Check", building.Check(b), api.OK)
	// The opening is from 3100 to 3900 along facade 0, which ends at 1000.
	want(t, "Possible", placesAt(t, b, 2100, []int{999, 1000}, []int{1500}), 0, ties(0, 0, 1, 0), 0)
	want(t, "Possible", placesAt(t, b, 2101, []int{999, 1000}, []int{1500}), 0, ties(0, 0), 0)
}

// P6.2: what is possible, place by place, for some buildings.
func TestPossibleByPlaces(t *testing.T) {
	d := dice()
	found := 0
	for range 800 {
		b, g, r := someBuilding(d), someGrid(d, 8, 6), someRule(d)
		g.Facade = d.Intn(len(b.Storeys[0].Outline))
		windows, _ := building.Windows(b, g.Facade)
		right := []api.Tie{}
		for _, tie := range allTies(g) {
			x, z := g.Along[tie.Standard], g.Levels[tie.Level]
			depth, e := building.Depth(b, g.Facade, x, z)
			isNear := slices.ContainsFunc(windows, func(w api.Window) bool {
				return x > w.From-r.Margin && x < w.To+r.Margin && z > w.Bottom-r.Margin && z < w.Top+r.Margin
			})
			if e == api.OK && depth == 0 && !isNear {
				right = append(right, tie)
			}
		}
		l, e := holding.Possible(b, g, r)
		want(t, "Possible", l, e, right, api.OK)
		found += len(right)
	}
	if found < 1000 {
		t.Errorf("only %d places", found)
	}
}

// someBuilding is a building of small numbers with openings and boxes.
func someBuilding(d *rand.Rand) api.Building {
	x, y := 8+d.Intn(20), 8+d.Intn(20)
	notch := []api.Point{{}, {X: x}, {X: x, Y: y / 2}, {X: x / 2, Y: y / 2}, {X: x / 2, Y: y}, {Y: y}}
	outlines := [][]api.Point{rectangle(0, 0, x, y), notch, rectangle(0, 0, x/2, y), rectangle(0, 1+d.Intn(2), x/2, y/2)}
	b := api.Building{Name: "some"}
	first := d.Intn(2)
	for i := range 1 + d.Intn(3) {
		b.Storeys = append(b.Storeys, api.Storey{Floor: b.Roof, Outline: outlines[first+i]})
		b.Roof += 3 + d.Intn(5)
	}
	b.Boxes = []api.Box{{X1: -9, Y1: -9, X2: -8, Y2: -8, Z2: 3}}
	for range 6 {
		o := api.Opening{Storey: d.Intn(len(b.Storeys)), Wall: d.Intn(4), From: d.Intn(8), Bottom: d.Intn(3)}
		o.To, o.Top = o.From+1+d.Intn(4), o.Bottom+1+d.Intn(3)
		with := b
		with.Openings = append(slices.Clone(b.Openings), o)
		if building.Check(with) == api.OK {
			b = with
		}
	}
	return b
}

// P6.2: the errors of Possible.
func TestPossibleErrors(t *testing.T) {
	inOrder(t, "Possible", func(x input) api.Errno {
		_, e := holding.Possible(x.building, x.grid, x.rule)
		return e
	}, buildingFault(), gridFault(), ruleFault(), []fault{
		{api.ErrMissing, func(x *input) { x.grid.Facade = max(x.grid.Facade, 4) }},
		{api.ErrMissing, func(x *input) { x.grid.Facade = max(x.grid.Facade, 39) }},
	})
}

// P6.2: patterns.
func TestSelect(t *testing.T) {
	for _, x := range []struct {
		standards, levels int
		p                 api.Pattern
		right             []api.Tie
	}{
		{3, 3, api.Pattern{Step: 2, Rise: 2, Shift: 1}, ties(0, 1, 2, 1)},
		{3, 4, api.Pattern{Step: 2, Rise: 2, Shift: 1}, ties(0, 1, 1, 3, 2, 1)},
		{3, 3, api.Pattern{Step: 1, Rise: 1}, allTies(even(3, 3))},
		{5, 3, api.Pattern{Step: 3, Rise: 1, Shift: 2}, ties(0, 0, 1, 2, 2, 1, 3, 0, 4, 2)},
		{4, 2, api.Pattern{Step: 3, Rise: 1, Shift: 30}, ties(0, 0, 0, 1, 3, 0, 3, 1)},
		{4, 2, api.Pattern{Step: 3, Rise: 1, Shift: 29}, ties(0, 0, 2, 1, 3, 0)},
		{3, 3, api.Pattern{Step: 2, Rise: 3}, ties(0, 2, 2, 2)},
		{3, 3, api.Pattern{Step: 2, Rise: 4}, nil},
		{60, 30, api.Pattern{Step: 30, Rise: 30, Shift: 30}, ties(0, 29, 30, 29)},
	} {
		l, e := holding.Select(even(x.standards, x.levels), x.p)
		want(t, "Select", l, e, x.right, api.OK)
	}
}

// P6.2: patterns row by row.
func TestSelectByRows(t *testing.T) {
	d := dice()
	for range 500 {
		g := someGrid(d, 20, 12)
		p := api.Pattern{Step: 1 + d.Intn(7), Rise: 1 + d.Intn(5), Shift: d.Intn(31)}
		right := []api.Tie{}
		for _, tie := range allTies(g) {
			for k := range 30 {
				if tie.Level == (k+1)*p.Rise-1 && (tie.Standard-k*p.Shift)%p.Step == 0 {
					right = append(right, tie)
				}
			}
		}
		l, e := holding.Select(g, p)
		want(t, "Select", l, e, right, api.OK)
	}
}

// P6.2: the errors of Select.
func TestSelectErrors(t *testing.T) {
	inOrder(t, "Select", func(x input) api.Errno {
		_, e := holding.Select(x.grid, x.pattern)
		return e
	}, gridFault(), []fault{
		{api.ErrRange, func(x *input) { x.pattern.Step = 0 }},
		{api.ErrRange, func(x *input) { x.pattern.Step = 31 }},
		{api.ErrRange, func(x *input) { x.pattern.Rise = 0 }},
		{api.ErrRange, func(x *input) { x.pattern.Rise = 31 }},
		{api.ErrRange, func(x *input) { x.pattern.Shift = -1 }},
		{api.ErrRange, func(x *input) { x.pattern.Shift = 31 }},
	})
}
