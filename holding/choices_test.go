package holding_test

import (
	"slices"
	"testing"

	"putlog/api"
	"putlog/holding"
)

// firstSmallest goes through all sets of places that meet the demands: of the smallest ones it returns the
// first one, and whether there is any.
func firstSmallest(l []api.Tie, demands []api.Demand) ([]api.Tie, bool) {
	var best []int
	found := false
	for set := range 1 << len(l) {
		chosen := []int{}
		for i := range l {
			if set>>i&1 == 1 {
				chosen = append(chosen, i)
			}
		}
		meets := !slices.ContainsFunc(demands, func(d api.Demand) bool {
			return !slices.ContainsFunc(d.Places, func(p int) bool { return set>>p&1 == 1 })
		})
		if meets && (!found || len(chosen) < len(best) || len(chosen) == len(best) && slices.Compare(chosen, best) < 0) {
			best, found = chosen, true
		}
	}
	out := []api.Tie{}
	for _, i := range best {
		out = append(out, l[i])
	}
	return out, found
}

// P6.4: the chapter's examples, and sets of the same number.
func TestChoose(t *testing.T) {
	for _, x := range []struct{ l, right []api.Tie }{
		{ties(0, 1, 1, 0, 1, 1), ties(1, 1)},
		{ties(0, 0, 0, 2, 2, 1), ties(0, 0, 0, 2, 2, 1)},
		{allTies(theGrid()), ties(1, 1)},
		{ties(0, 0, 0, 1, 0, 2, 2, 0, 2, 1, 2, 2), ties(0, 1, 2, 1)},
		{ties(0, 0, 0, 2, 1, 0, 1, 2, 2, 0, 2, 2), ties(1, 0, 1, 2)},
		{ties(0, 0, 0, 1, 1, 2, 2, 0), ties(0, 0, 1, 2, 2, 0)},
		{ties(0, 1, 1, 2, 2, 0), ties(0, 1, 1, 2, 2, 0)},
		{ties(0, 0, 0, 1, 1, 0, 1, 2), ties(1, 0, 1, 2)},
	} {
		l, e := holding.Choose(theGrid(), theRule(), x.l)
		want(t, "Choose", l, e, x.right, api.OK)
	}
	l, e := holding.Choose(even(4, 1), api.TieRule{Every: 2000, Skip: 1}, allTies(even(4, 1)))
	want(t, "Choose of many pairs", l, e, ties(0, 0, 2, 0), api.OK)
	l, e = holding.Choose(even(5, 1), api.TieRule{Every: 2000, Skip: 1}, allTies(even(5, 1)))
	want(t, "Choose of many pairs", l, e, ties(0, 0, 3, 0), api.OK)
}

// P6.4: without demands no tie is chosen.
func TestChooseNothing(t *testing.T) {
	free := theRule()
	free.Free = 6000
	for _, places := range [][]api.Tie{nil, allTies(theGrid())} {
		l, e := holding.Choose(theGrid(), free, places)
		want(t, "Choose", l, e, ties(), api.OK)
	}
}

// P6.4: all sets of the places of some grids.
func TestChooseByAllSets(t *testing.T) {
	d := dice()
	held, several := 0, 0
	for range 1500 {
		g, r := someGrid(d, 6, 6), someRule(d)
		l := someTies(d, g, 11)
		right, ok := firstSmallest(l, demandsOf(g, r, l))
		f := api.OK
		if !ok {
			right, f = ties(), api.ErrHeld
		}
		got, e := holding.Choose(g, r, l)
		want(t, "Choose", got, e, right, f)
		if ok {
			held++
		}
		if len(right) > 2 {
			several++
		}
	}
	if held < 300 || several < 50 {
		t.Errorf("only %d grids are held, only %d by several ties", held, several)
	}
}

// P6.4: up to 24 places.
func TestChooseOfMany(t *testing.T) {
	g := even(12, 2)
	rule := api.TieRule{Every: 2000, Skip: 1}
	l, e := holding.Choose(g, rule, allTies(g))
	want(t, "Choose of 24 places", l, e, ties(1, 0, 1, 1, 4, 0, 4, 1, 7, 0, 7, 1, 10, 0, 10, 1), api.OK)
	rule.Skip = 0
	l, e = holding.Choose(g, rule, allTies(g))
	want(t, "Choose of 24 places, each of them needed", l, e, allTies(g), api.OK)
	g = even(25, 1)
	l, e = holding.Choose(g, rule, allTies(g))
	want(t, "Choose of 25 places", l, e, ties(), api.ErrLarge)
	free := api.TieRule{Every: 2000, Free: 2000}
	l, e = holding.Choose(g, free, allTies(g))
	want(t, "Choose of 25 places without demands", l, e, ties(), api.ErrLarge)
	l, e = holding.Choose(g, rule, allTies(g)[:24])
	want(t, "Choose where one standard has no place", l, e, ties(), api.ErrHeld)
}

// P6.4: the errors of Choose.
func TestChooseErrors(t *testing.T) {
	inOrder(t, "Choose", func(x input) api.Errno {
		_, e := holding.Choose(x.grid, x.rule, x.ties)
		return e
	}, chain(demandsFault(), of(one(api.ErrLarge, func(x *input) {
		x.grid = even(3, 9)
		x.ties = allTies(x.grid)[2:]
	}), one(api.ErrHeld, func(x *input) { x.rule.Every = 1 })))...)
}
