package holding_test

import (
	"testing"

	"putlog/api"
	"putlog/holding"
)

// P6.3: the demands of the chapter's example.
func TestDemands(t *testing.T) {
	l, e := holding.Demands(theGrid(), theRule(), ties(1, 1))
	want(t, "Demands", l, e, []api.Demand{
		demand(0, 0, 0), demand(0, 2000, 0), demand(1, 0, 0), demand(1, 2000, 0), demand(2, 0, 0), demand(2, 2000, 0),
	}, api.OK)
	l, e = holding.Demands(theGrid(), theRule(), ties(0, 0, 0, 2, 2, 1))
	want(t, "Demands", l, e, []api.Demand{
		demand(0, 0, 0), demand(0, 2000, 1), demand(1, 0, 0, 2), demand(1, 2000, 1, 2), demand(2, 0, 2), demand(2, 2000, 2),
	}, api.OK)
	l, e = holding.Demands(theGrid(), theRule(), nil)
	want(t, "Demands without ties", l, e, []api.Demand{
		demand(0, 0), demand(0, 2000), demand(1, 0), demand(1, 2000), demand(2, 0), demand(2, 2000),
	}, api.OK)
}

// P6.3: the limits of the rule are exact.
func TestDemandsAtLimits(t *testing.T) {
	g := api.Grid{Along: []int{0}, Levels: []int{2000, 4000, 6000}}
	for _, x := range []struct {
		every, free int
		right       []api.Demand
	}{
		{2000, 0, []api.Demand{demand(0, 0, 0), demand(0, 2000, 1), demand(0, 4000, 2)}},
		{1999, 0, []api.Demand{demand(0, 0), demand(0, 2000), demand(0, 4000)}},
		{4000, 1999, []api.Demand{demand(0, 0, 0, 1), demand(0, 2000, 1, 2), demand(0, 4000, 2)}},
		{4000, 2000, []api.Demand{demand(0, 0, 0, 1), demand(0, 2000, 1, 2)}},
		{3999, 4000, []api.Demand{demand(0, 0, 0)}},
		{1, 5999, []api.Demand{demand(0, 0)}},
		{1, 6000, nil},
	} {
		l, e := holding.Demands(g, api.TieRule{Every: x.every, Free: x.free}, ties(0, 0, 0, 1, 0, 2))
		want(t, "Demands", l, e, x.right, api.OK)
	}
	g = even(4, 1)
	for skip, right := range [][]api.Demand{
		{demand(0, 0, 0), demand(1, 0), demand(2, 0), demand(3, 0, 1)},
		{demand(0, 0, 0), demand(1, 0, 0), demand(2, 0, 1), demand(3, 0, 1)},
		{demand(0, 0, 0), demand(1, 0, 0, 1), demand(2, 0, 0, 1), demand(3, 0, 1)},
		{demand(0, 0, 0, 1), demand(1, 0, 0, 1), demand(2, 0, 0, 1), demand(3, 0, 0, 1)},
	} {
		l, e := holding.Demands(g, api.TieRule{Every: 2000, Skip: skip}, ties(0, 0, 3, 0))
		want(t, "Demands", l, e, right, api.OK)
	}
}

// P6.3: all demands of some grids, and the first one without a tie.
func TestDemandsByDefinition(t *testing.T) {
	d := dice()
	for range 2000 {
		g, r := someGrid(d, 6, 6), someRule(d)
		l := someTies(d, g, 20)
		right := demandsOf(g, r, l)
		got, e := holding.Demands(g, r, l)
		want(t, "Demands", got, e, right, api.OK)
		is, open := true, api.Demand{}
		for i := len(right) - 1; i >= 0; i-- {
			if len(right[i].Places) == 0 {
				is, open = false, right[i]
			}
		}
		held, first, e := holding.Held(g, r, l)
		want(t, "Held", []any{held, first}, e, []any{is, open}, api.OK)
		numbers, e := holding.Essential(right)
		want(t, "Essential", numbers, e, essentialOf(right), api.OK)
	}
}

// P6.3: the widest grid with all ties has the most demands.
func TestDemandsOfTheWidestGrid(t *testing.T) {
	g := widest()
	g.Levels[29] = 30
	l, e := holding.Demands(g, api.TieRule{Every: 1000000, Skip: 10}, allTies(g))
	wantError(t, "Demands", e, api.OK)
	if len(l) != 1800 || len(l[0].Places) != 330 || len(l[1799].Places) != 11 {
		t.Fatalf("%d demands, the first one with %d places", len(l), len(l[0].Places))
	}
	numbers, e := holding.Essential(l)
	right := []int{}
	for i := range 60 {
		// The standards from 1 to 10 have the places of the standard 0 and more, so have those before 59.
		if i == 0 || i > 10 && i < 49 || i == 59 {
			right = append(right, 30*i+29)
		}
	}
	want(t, "Essential", numbers, e, right, api.OK)
}

// P6.3: ties that hold the chapter's grid, and others.
func TestHeld(t *testing.T) {
	for _, x := range []struct {
		ties []api.Tie
		is   bool
		open api.Demand
	}{
		{ties(1, 1), true, api.Demand{}},
		{ties(0, 1, 2, 1), true, api.Demand{}},
		{ties(0, 1), false, demand(2, 0)},
		{ties(2, 1), false, demand(0, 0)},
		{ties(1, 0), false, demand(0, 2000)},
		{ties(0, 0, 0, 1, 2, 0), false, demand(2, 2000)},
		{nil, false, demand(0, 0)},
	} {
		is, open, e := holding.Held(theGrid(), theRule(), x.ties)
		want(t, "Held", []any{is, open}, e, []any{x.is, x.open}, api.OK)
	}
	free := theRule()
	free.Free = 6000
	is, open, e := holding.Held(theGrid(), free, nil)
	want(t, "Held without ties", []any{is, open}, e, []any{true, api.Demand{}}, api.OK)
}

// P6.3: essential demands; Standard and From do not matter.
func TestEssential(t *testing.T) {
	for _, x := range []struct {
		l     []api.Demand
		right []int
	}{
		{nil, nil},
		{[]api.Demand{demand(0, 0)}, []int{0}},
		{[]api.Demand{demand(0, 0, 1, 2), demand(0, 0, 1), demand(0, 0, 2, 3), demand(0, 0, 1, 2)}, []int{1, 2}},
		{[]api.Demand{demand(0, 0, 5), demand(9, 9, 5), demand(-1, -1, 5)}, []int{0}},
		{[]api.Demand{demand(0, 0, 1, 2), demand(0, 0, 2, 3), demand(0, 0, 1, 2, 3)}, []int{0, 1}},
		{[]api.Demand{demand(0, 0, 1, 2, 3), demand(0, 0, 1, 2)}, []int{1}},
		{[]api.Demand{demand(0, 0, 1), demand(0, 0), demand(0, 0)}, []int{1}},
		{[]api.Demand{demand(0, 0, 0), demand(0, 0, 64), demand(0, 0, 128), demand(0, 0, 1799)}, []int{0, 1, 2, 3}},
		{[]api.Demand{demand(0, 0, 0, 1799), demand(0, 0, 1799), demand(0, 0, 63, 64), demand(0, 0, 64, 65)}, []int{1, 2, 3}},
		{[]api.Demand{demand(0, 0, 0), demand(0, 0, 63), demand(0, 0, 126), demand(0, 0, 127), demand(0, 0, 190)}, []int{0, 1, 2, 3, 4}},
	} {
		numbers, e := holding.Essential(x.l)
		want(t, "Essential", numbers, e, x.right, api.OK)
	}
}

// P6.3: the errors of Essential. Of one demand ErrRange comes first, but an earlier demand before a later one.
func TestEssentialErrors(t *testing.T) {
	for _, x := range []struct {
		l  []api.Demand
		is api.Errno
	}{
		{make([]api.Demand, 1800), api.OK},
		{make([]api.Demand, 1801), api.ErrLarge},
		{append(make([]api.Demand, 1800), demand(0, 0, -1)), api.ErrLarge},
		{[]api.Demand{demand(0, 0, 0, 1799)}, api.OK},
		{[]api.Demand{demand(0, 0, 1800)}, api.ErrRange},
		{[]api.Demand{demand(0, 0, -1)}, api.ErrRange},
		{[]api.Demand{demand(0, 0, 3, 3)}, api.ErrOrder},
		{[]api.Demand{demand(0, 0, 3, 2)}, api.ErrOrder},
		{[]api.Demand{demand(0, 0, 3, 3, 1800)}, api.ErrRange},
		{[]api.Demand{demand(0, 0, 3, 3), demand(0, 0, 1800)}, api.ErrOrder},
		{[]api.Demand{demand(0, 0, 3), demand(0, 0, 1800), demand(0, 0, 2, 2)}, api.ErrRange},
	} {
		_, e := holding.Essential(x.l)
		wantError(t, "Essential", e, x.is)
	}
}

// P6.3: the errors of Demands and Held.
func TestDemandsErrors(t *testing.T) {
	inOrder(t, "Demands", callDemands, demandsFault()...)
	inOrder(t, "Held", func(x input) api.Errno {
		_, _, e := holding.Held(x.grid, x.rule, x.ties)
		return e
	}, demandsFault()...)
}
