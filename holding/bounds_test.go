package holding_test

import (
	"math/big"
	"slices"
	"testing"

	"putlog/api"
	"putlog/exact"
	"putlog/holding"
)

// checkers is every other place of a grid.
func checkers(g api.Grid) []api.Tie {
	return slices.DeleteFunc(allTies(g), func(t api.Tie) bool { return (t.Standard+t.Level)%2 == 1 })
}

// areWeights reports whether weights are what the chapter calls so.
func areWeights(d []api.Demand, places int, w []api.Rat) bool {
	if len(w) != len(d) {
		return false
	}
	for p := range places {
		sum := new(big.Rat)
		for i, x := range d {
			if value(w[i]).Sign() < 0 {
				return false
			}
			if slices.Contains(x.Places, p) {
				sum.Add(sum, value(w[i]))
			}
		}
		if sum.Cmp(big.NewRat(1, 1)) > 0 {
			return false
		}
	}
	return true
}

// leastShare is the least sum of shares of places, not negative, that add up to 1 for each demand. By
// duality no weights have a greater sum, and some have this one.
func leastShare(t *testing.T, d []api.Demand, places int) *big.Rat {
	t.Helper()
	p := api.Program{}
	for _, x := range d {
		row := make([]api.Rat, places)
		for _, i := range x.Places {
			row[i] = r(-1, 1)
		}
		p.A, p.B = append(p.A, row), append(p.B, r(-1, 1))
	}
	for range places {
		p.C = append(p.C, r(-1, 1))
	}
	o, e := exact.Optimize(p)
	if e != api.OK || o.Kind != 0 {
		t.Fatalf("Optimize: kind %d, error %d", o.Kind, e)
	}
	return new(big.Rat).Neg(value(o.Value))
}

// checkBound compares Bound with the least share, and looks at the weights.
func checkBound(t *testing.T, g api.Grid, rule api.TieRule, l []api.Tie) *big.Rat {
	t.Helper()
	d := demandsOf(g, rule, l)
	w, sum, e := holding.Bound(g, rule, l)
	want(t, "Bound", sum, e, ratOf(leastShare(t, d, len(l))), api.OK)
	want(t, "the sum of the weights", ratOf(sumOf(w)), 0, sum, 0)
	if !areWeights(d, len(l), w) {
		t.Errorf("Bound: %v are no weights", w)
	}
	for _, x := range w {
		want(t, "a weight in normal form", x, 0, ratOf(value(x)), 0)
	}
	again, e := holding.CheckBound(d, len(l), w)
	want(t, "CheckBound of Bound", again, e, sum, api.OK)
	return value(sum)
}

// P6.4: the bound of the chapter's example, and of others.
func TestBound(t *testing.T) {
	for _, x := range []struct {
		l     []api.Tie
		right api.Rat
	}{
		{ties(0, 1, 1, 0, 1, 1), r(1, 1)},
		{ties(0, 0, 0, 2, 2, 1), r(3, 1)},
		{ties(0, 0, 0, 1, 0, 2, 2, 0, 2, 1, 2, 2), r(2, 1)},
	} {
		_, sum, e := holding.Bound(theGrid(), theRule(), x.l)
		want(t, "Bound", sum, e, x.right, api.OK)
		checkBound(t, theGrid(), theRule(), x.l)
	}
}

// P6.4: without demands the bound is 0, with places or without.
func TestBoundOfNothing(t *testing.T) {
	rule := theRule()
	rule.Free = 6000
	for _, l := range [][]api.Tie{nil, allTies(theGrid())} {
		w, sum, e := holding.Bound(theGrid(), rule, l)
		want(t, "Bound", []any{w, sum}, e, []any{rats(), r(0, 1)}, api.OK)
	}
}

// P6.4, P6.10: a bound that is a fraction; Choose needs half a tie more.
func TestBoundOfHalves(t *testing.T) {
	rule := api.TieRule{Every: 6000, Free: 4000, Skip: 1}
	l := ties(0, 2, 0, 4, 1, 1, 1, 3, 2, 2, 2, 4, 3, 0, 3, 4, 4, 0, 4, 1, 4, 3)
	_, sum, e := holding.Bound(even(5, 5), rule, l)
	want(t, "Bound", sum, e, r(7, 2), api.OK)
	checkBound(t, even(5, 5), rule, l)
	chosen, e := holding.Choose(even(5, 5), rule, l)
	want(t, "Choose", len(chosen), e, 4, api.OK)
}

// P6.4, P6.10: bounds of some grids; no set of places that holds the grid is smaller.
func TestBoundByDuality(t *testing.T) {
	d := dice()
	held := 0
	for range 1500 {
		g, rule := someGrid(d, 6, 6), someRule(d)
		l := someTies(d, g, 18)
		if slices.ContainsFunc(demandsOf(g, rule, l), func(x api.Demand) bool { return len(x.Places) == 0 }) {
			w, sum, e := holding.Bound(g, rule, l)
			want(t, "Bound", []any{w, sum}, e, []any{rats(), api.Rat{}}, api.ErrHeld)
			continue
		}
		held++
		bound := checkBound(t, g, rule, l)
		chosen, e := holding.Choose(g, rule, l)
		wantError(t, "Choose", e, api.OK)
		if bound.Cmp(big.NewRat(int64(len(chosen)), 1)) > 0 {
			t.Errorf("%d ties hold the grid, but the bound is %v", len(chosen), bound)
		}
	}
	if held < 300 {
		t.Errorf("only %d grids are held", held)
	}
}

// P6.4: up to 60 places and 60 essential demands.
func TestBoundOfMany(t *testing.T) {
	rule := api.TieRule{Every: 2000}
	_, sum, e := holding.Bound(even(30, 2), rule, allTies(even(30, 2)))
	want(t, "Bound of 60 places", sum, e, r(60, 1), api.OK)
	w, sum, e := holding.Bound(even(31, 2), rule, allTies(even(31, 2))[:61])
	want(t, "Bound of 61 places", []any{w, sum}, e, []any{rats(), api.Rat{}}, api.ErrLarge)
	free := api.TieRule{Every: 2000, Free: 6000}
	_, sum, e = holding.Bound(even(31, 2), free, allTies(even(31, 2))[:61])
	want(t, "Bound of 61 places without demands", sum, e, api.Rat{}, api.ErrLarge)
	for _, x := range []struct {
		g         api.Grid
		free      int
		essential int
		is        api.Errno
	}{{even(8, 11), 2000, 60, api.OK}, {even(10, 9), 0, 61, api.ErrLarge}} {
		rule := api.TieRule{Every: 4000, Free: x.free, Skip: 1}
		l := checkers(x.g)
		d := demandsOf(x.g, rule, l)
		if len(essentialOf(d)) != x.essential || len(l) > 60 {
			t.Fatalf("%d essential demands of %d places", len(essentialOf(d)), len(l))
		}
		w, sum, e := holding.Bound(x.g, rule, l)
		wantError(t, "Bound of many essential demands", e, x.is)
		if e == api.OK && (!areWeights(d, len(l), w) || sumOf(w).Cmp(value(sum)) != 0) {
			t.Errorf("Bound: %v are no weights", w)
		}
	}
}

// P6.4: the errors of Bound.
func TestBoundErrors(t *testing.T) {
	inOrder(t, "Bound", func(x input) api.Errno {
		_, _, e := holding.Bound(x.grid, x.rule, x.ties)
		return e
	}, chain(demandsFault(), of([]fault{
		{api.ErrLarge, func(x *input) {
			x.grid = even(3, 21)
			x.ties = allTies(x.grid)[2:]
		}},
	}, one(api.ErrHeld, func(x *input) { x.rule.Every = 1 })))...)
}

// three is three demands, of which any two have a common place.
func three() []api.Demand {
	return []api.Demand{demand(0, 0, 0, 1), demand(0, 0, 1, 2), demand(0, 0, 0, 2)}
}

// P6.4: weights that are accepted, with their sum, and others.
func TestCheckBound(t *testing.T) {
	single := []api.Demand{demand(0, 0, 4), demand(0, 0, 4), demand(0, 0, 4)}
	for _, x := range []struct {
		d      []api.Demand
		places int
		w      []api.Rat
		right  api.Rat
		is     api.Errno
	}{
		{three(), 3, rats(1, 2, 1, 2, 1, 2), r(3, 2), api.OK},
		{three(), 3, []api.Rat{odd(1, 2), odd(1, 2), odd(1, 2)}, r(3, 2), api.OK},
		{three(), 3, rats(0, 1, 1, 1, 0, 1), r(1, 1), api.OK},
		{three(), 3, []api.Rat{{}, r(1, 1), {Num: api.Int{Neg: true, Limbs: []uint32{0}}}}, r(1, 1), api.OK},
		{three(), 3, rats(1, 3, 2, 3, 1, 3), r(4, 3), api.OK},
		{three(), 3, rats(1, 2, 1, 2, 501, 1000), api.Rat{}, api.ErrProof},
		{three(), 3, rats(1, 1, 1, 1, 1, 1), api.Rat{}, api.ErrProof},
		{three(), 3, rats(-1, 2, 1, 2, 1, 2), api.Rat{}, api.ErrProof},
		{three(), 3, rats(1, 2, 1, 2, -1, 1000), api.Rat{}, api.ErrProof},
		{three(), 3, []api.Rat{odd(-1, 2), odd(1, 2), odd(1, 2)}, api.Rat{}, api.ErrProof},
		{single, 5, rats(1, 2, 1, 3, 1, 6), r(1, 1), api.OK},
		{single, 5, rats(1, 2, 1, 3, 1, 5), api.Rat{}, api.ErrProof},
		{single, 1800, rats(1, 4294967296, 1, 3, 0, 1), r(4294967299, 12884901888), api.OK},
		{nil, 0, nil, r(0, 1), api.OK},
		{nil, 1800, nil, r(0, 1), api.OK},
		{[]api.Demand{demand(0, 0), demand(7, 7, 0)}, 1, rats(5, 1, 1, 1), r(6, 1), api.OK},
		{[]api.Demand{demand(0, 0), demand(7, 7, 0)}, 1, rats(-5, 1, 1, 1), api.Rat{}, api.ErrProof},
		{[]api.Demand{demand(0, 0)}, 0, rats(5, 2), r(5, 2), api.OK},
	} {
		sum, e := holding.CheckBound(x.d, x.places, x.w)
		want(t, "CheckBound", sum, e, x.right, x.is)
	}
}

// P6.4: CheckBound by the chapter's definition.
func TestCheckBoundByDefinition(t *testing.T) {
	d := dice()
	accepted := 0
	for range 3000 {
		places := 1 + d.Intn(6)
		l, w := []api.Demand{}, []api.Rat{}
		for range d.Intn(6) {
			l = append(l, demand(d.Intn(9), d.Intn(9), ascending(d, d.Intn(places+1), 0, places-1)...))
			w = append(w, odd(int64(d.Intn(20)-1), int64(10+d.Intn(30))))
		}
		right, f := ratOf(sumOf(w)), api.OK
		if !areWeights(l, places, w) {
			right, f = api.Rat{}, api.ErrProof
		} else {
			accepted++
		}
		sum, e := holding.CheckBound(l, places, w)
		want(t, "CheckBound", sum, e, right, f)
	}
	if accepted < 300 || accepted > 2700 {
		t.Errorf("%d of 3000 weights are accepted", accepted)
	}
}

// P6.4: the errors of CheckBound.
func TestCheckBoundErrors(t *testing.T) {
	inOrder(t, "CheckBound", func(x input) api.Errno {
		_, e := holding.CheckBound(x.demands, x.places, x.weights)
		return e
	}, []fault{
		{api.ErrRange, func(x *input) { x.places = -1 }},
		{api.ErrRange, func(x *input) { x.places = 1801 }},
	}, one(api.ErrLarge, func(x *input) {
		x.demands = append(x.demands, make([]api.Demand, 1801)...)
	}), []fault{
		{api.ErrRange, func(x *input) { x.demands[0].Places = append([]int{3}, x.demands[0].Places...) }},
		{api.ErrRange, func(x *input) { x.demands[0].Places = append([]int{0, 0, -1}, x.demands[0].Places...) }},
		{api.ErrOrder, func(x *input) { x.demands[0].Places = []int{1, 1} }},
		{api.ErrOrder, func(x *input) { x.demands[0].Places = []int{1, 0} }},
	}, []fault{
		{api.ErrRange, func(x *input) { x.demands[1].Places = []int{3} }},
		{api.ErrOrder, func(x *input) { x.demands[1].Places = []int{2, 1} }},
	}, []fault{
		{api.ErrShape, func(x *input) { x.weights = append(x.weights, r(0, 1)) }},
		{api.ErrShape, func(x *input) { x.weights = x.weights[:1] }},
	}, []fault{
		{api.ErrProof, func(x *input) { x.weights[0] = r(-1, 3) }},
		{api.ErrProof, func(x *input) { x.weights[0] = r(2, 3) }},
	})
	many := make([]api.Demand, 1800)
	w := make([]api.Rat, 1800)
	for i := range many {
		many[i], w[i] = demand(0, 0, 0, 1799), r(1, 1800)
	}
	sum, e := holding.CheckBound(many, 1800, w)
	want(t, "CheckBound of the most demands", sum, e, r(1, 1), api.OK)
	sum, e = holding.CheckBound(many, 1799, w)
	want(t, "CheckBound of fewer places", sum, e, api.Rat{}, api.ErrRange)
}
