package holding_test

import (
	"testing"

	"putlog/api"
	"putlog/holding"
)

// P6.5: the chapter's example, and winds whose forces tell where they went.
func TestShares(t *testing.T) {
	wind := []int{1, 10, 100, 1000, 10000, 100000, 200, 20000, 2}
	for _, x := range []struct {
		ties  []api.Tie
		right []int
	}{
		{ties(1, 1), []int{131313}},
		// The places of standard 1 are as far from either tie: they go to the first one.
		{ties(0, 1, 2, 1), []int{111111, 20202}},
		{ties(0, 0, 0, 2), []int{31211, 100102}},
		{allTies(theGrid()), wind},
	} {
		l, e := holding.Shares(theGrid(), x.ties, wind)
		want(t, "Shares", l, e, x.right, api.OK)
	}
	// The distance along the facade and that in height are added: (0, 0) is 5 from the level, 5 from the standard.
	g := api.Grid{Along: []int{-3, 2}, Levels: []int{1, 6}}
	l, e := holding.Shares(g, ties(0, 1, 1, 0), []int{1, 2, 4, 8})
	want(t, "Shares at the same distance", l, e, []int{11, 4}, api.OK)
	g.Levels[1] = 7
	l, e = holding.Shares(g, ties(0, 1, 1, 0), []int{1, 2, 4, 8})
	want(t, "Shares nearer along the facade", l, e, []int{10, 5}, api.OK)
	g.Levels[1] = 5
	l, e = holding.Shares(g, ties(0, 0, 1, 1), []int{1, 2, 4, 8})
	want(t, "Shares nearer in height", l, e, []int{3, 12}, api.OK)
}

// P6.5: shares of some grids by the chapter's definition. They add up to the wind (P6.10).
func TestSharesByDefinition(t *testing.T) {
	d := dice()
	size := func(n int) int { return max(n, -n) }
	for range 1000 {
		g := someGrid(d, 6, 6)
		l := someTies(d, g, 12)
		wind, total := make([]int, len(g.Along)*len(g.Levels)), 0
		right := make([]int, len(l))
		for i := range g.Along {
			for k := range g.Levels {
				force := d.Intn(1000)
				wind[i*len(g.Levels)+k] = force
				total += force
				nearest, least := -1, 1000
				for n, tie := range l {
					way := size(g.Along[i]-g.Along[tie.Standard]) + size(g.Levels[k]-g.Levels[tie.Level])
					if way < least {
						nearest, least = n, way
					}
				}
				if nearest >= 0 {
					right[nearest] += force
				}
			}
		}
		got, e := holding.Shares(g, l, wind)
		if len(l) == 0 {
			want(t, "Shares without ties", got, e, []int{}, api.ErrNone)
			continue
		}
		want(t, "Shares", got, e, right, api.OK)
		for _, n := range got {
			total -= n
		}
		if total != 0 {
			t.Errorf("Shares: %d of the wind is left", total)
		}
	}
}

// P6.5: the widest grid with the strongest wind.
func TestSharesOfTheWidestGrid(t *testing.T) {
	g := widest()
	wind := make([]int, 1800)
	for i := range wind {
		wind[i] = 1000000
	}
	l, e := holding.Shares(g, ties(59, 29), wind)
	want(t, "Shares", l, e, []int{1800000000}, api.OK)
	l, e = holding.Shares(g, allTies(g), wind)
	want(t, "Shares of all ties", l, e, wind, api.OK)
}

// P6.5: the first tie that is too weak.
func TestAnchored(t *testing.T) {
	wind := []int{0, 5000, 0, 0, 1, 0, 0, 5000, 0}
	for _, x := range []struct {
		ties            []api.Tie
		strength, right int
	}{
		{ties(1, 1), 10000, 0},
		{ties(1, 1), 10001, -1},
		{ties(0, 1, 2, 1), 5000, 0},
		{ties(0, 1, 2, 1), 5001, -1},
		{ties(0, 1, 2, 1), 4999, 0},
		{ties(0, 0, 2, 1), 5000, 1},
		{ties(0, 0, 2, 1), 5001, -1},
		{ties(0, 1, 1, 1, 2, 1), 5000, -1},
		{ties(0, 1, 1, 1, 2, 1), 0, 0},
		{ties(0, 0, 0, 1, 2, 1), 0, 1},
	} {
		rule := theRule()
		rule.Strength = x.strength
		n, e := holding.Anchored(theGrid(), rule, x.ties, wind)
		want(t, "Anchored", n, e, x.right, api.OK)
	}
	rule := theRule()
	rule.Strength = 0
	n, e := holding.Anchored(theGrid(), rule, ties(1, 1), make([]int, 9))
	want(t, "Anchored without wind", n, e, -1, api.OK)
}

// P6.5: the errors of Shares and Anchored.
func TestWindErrors(t *testing.T) {
	rest := of([]fault{
		{api.ErrShape, func(x *input) { x.wind = append(x.wind, 0) }},
		{api.ErrShape, func(x *input) { x.wind = x.wind[1:] }},
		{api.ErrShape, func(x *input) { x.wind = nil }},
	}, []fault{
		{api.ErrRange, func(x *input) { x.wind[0], x.wind[8] = -1, -1 }},
		{api.ErrRange, func(x *input) { x.wind[0], x.wind[8] = 1000001, 1000001 }},
	}, one(api.ErrNone, func(x *input) { x.ties = nil }))
	inOrder(t, "Shares", func(x input) api.Errno {
		_, e := holding.Shares(x.grid, x.ties, x.wind)
		return e
	}, chain(of(gridFault()), tiesFault(), rest)...)
	inOrder(t, "Anchored", func(x input) api.Errno {
		_, e := holding.Anchored(x.grid, x.rule, x.ties, x.wind)
		return e
	}, chain(demandsFault(), rest)...)
	x := fine()
	x.wind = []int{0, 1000000, 0, 0, 0, 0, 0, 0, 1000000}
	_, e := holding.Shares(x.grid, x.ties, x.wind)
	wantError(t, "Shares of a strong wind", e, api.OK)
}
