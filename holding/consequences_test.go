package holding_test

import (
	"math/rand"
	"slices"
	"testing"

	"putlog/api"
	"putlog/holding"
)

// climbs reports whether one can climb along a standard: from the ground, and from each held level, there is a
// held level at most Every above, or the top at most Free above; the last one has the top so near.
func climbs(g api.Grid, rule api.TieRule, l []api.Tie, standard int) bool {
	heights := []int{0}
	for k, z := range g.Levels {
		isHeld := slices.ContainsFunc(l, func(t api.Tie) bool {
			return t.Level == k && standard-rule.Skip <= t.Standard && t.Standard <= standard+rule.Skip
		})
		if isHeld {
			heights = append(heights, z)
		}
	}
	top := g.Levels[len(g.Levels)-1]
	for i, h := range heights {
		if i == len(heights)-1 {
			return top-h <= rule.Free
		}
		if heights[i+1]-h > rule.Every && top-h > rule.Free {
			return false
		}
	}
	return false
}

// P6.9: the grid is held just if one can climb along each standard. More ties hold it too.
func TestHeldByClimbing(t *testing.T) {
	d := dice()
	held := 0
	for range 5000 {
		g, rule := someGrid(d, 4, 6), someRule(d)
		l := someTies(d, g, 12)
		right := true
		for i := range g.Along {
			right = right && climbs(g, rule, l, i)
		}
		is, _, e := holding.Held(g, rule, l)
		want(t, "Held", is, e, right, api.OK)
		if !is {
			continue
		}
		held++
		for _, more := range allTies(g) {
			if !slices.Contains(l, more) {
				is, open, e := holding.Held(g, rule, withTie(l, more))
				want(t, "Held with one more tie", []any{is, open}, e, []any{true, api.Demand{}}, api.OK)
			}
		}
	}
	if held < 500 || held > 4500 {
		t.Errorf("%d of 5000 grids are held", held)
	}
}

// withTie is the ties with one more, in their order.
func withTie(l []api.Tie, more api.Tie) []api.Tie {
	out := append(slices.Clone(l), more)
	slices.SortFunc(out, func(a, b api.Tie) int { return 100*(a.Standard-b.Standard) + a.Level - b.Level })
	return out
}

// P6.9: where the essential demands are met, all are.
func TestEssentialDemandsAreEnough(t *testing.T) {
	d := dice()
	met := 0
	for range 3000 {
		g, rule := someGrid(d, 5, 5), someRule(d)
		l := someTies(d, g, 10)
		all, _ := holding.Demands(g, rule, l)
		numbers, e := holding.Essential(all)
		wantError(t, "Essential", e, api.OK)
		chosen := d.Intn(1 << len(l))
		isMet := func(x api.Demand) bool {
			return slices.ContainsFunc(x.Places, func(p int) bool { return chosen>>p&1 == 1 })
		}
		right := !slices.ContainsFunc(all, func(x api.Demand) bool { return !isMet(x) })
		is := !slices.ContainsFunc(numbers, func(i int) bool { return !isMet(all[i]) })
		want(t, "the essential demands", is, 0, right, 0)
		if is {
			met++
		}
	}
	if met < 300 {
		t.Errorf("only %d of the demands are met", met)
	}
}

// P6.10: more places never make Choose longer, and what it chooses holds the grid.
func TestChooseOfMorePlaces(t *testing.T) {
	d := dice()
	held := 0
	for range 1000 {
		g, rule := someGrid(d, 6, 6), someRule(d)
		l := someTies(d, g, 20)
		chosen, e := holding.Choose(g, rule, l)
		if e != api.OK {
			wantError(t, "Choose", e, api.ErrHeld)
			continue
		}
		held++
		is, _, e := holding.Held(g, rule, chosen)
		want(t, "Held by what was chosen", is, e, true, api.OK)
		again, e := holding.Choose(g, rule, chosen)
		want(t, "Choose of what was chosen", again, e, chosen, api.OK)
		for _, more := range allTies(g) {
			if slices.Contains(l, more) || len(l) == 24 {
				continue
			}
			l = withTie(l, more)
			better, e := holding.Choose(g, rule, l)
			if e != api.OK || len(better) > len(chosen) {
				t.Errorf("Choose of more places: %v, error %d, but %v is enough", better, e, chosen)
			}
		}
	}
	if held < 200 {
		t.Errorf("only %d grids are held", held)
	}
}

// P6.10: no weights of the demands have a sum above the number of ties that hold the grid.
func TestWeightsAreABound(t *testing.T) {
	d := dice()
	compared := 0
	for range 2000 {
		g, rule := someGrid(d, 4, 4), someRule(d)
		l := someTies(d, g, 12)
		demands, _ := holding.Demands(g, rule, l)
		is, _, _ := holding.Held(g, rule, l)
		sum, e := holding.CheckBound(demands, len(l), someWeights(d, len(demands)))
		if e != api.OK || !is {
			continue
		}
		compared++
		chosen, e := holding.Choose(g, rule, l)
		wantError(t, "Choose", e, api.OK)
		if value(sum).Cmp(value(r(int64(len(chosen)), 1))) > 0 {
			t.Errorf("the weights add up to %v, but %d ties hold the grid", value(sum), len(chosen))
		}
	}
	if compared < 100 {
		t.Errorf("only %d weights are compared", compared)
	}
}

// someWeights is fractions, most of them 0.
func someWeights(d *rand.Rand, n int) []api.Rat {
	out := []api.Rat{}
	for range n {
		out = append(out, r(int64(max(0, d.Intn(8)-5)), int64(1+d.Intn(4))))
	}
	return out
}

// P6.11: the extensions of the jacks with the datum are from the least to the most, and one is the least.
func TestJacksWithTheDatum(t *testing.T) {
	d := dice()
	found := 0
	for range 1000 {
		g, l := someGrid(d, 8, 3), someGround(d)
		j := api.Jack{Least: d.Intn(9), Sole: d.Intn(5)}
		j.Most = j.Least + d.Intn(12)
		datum, e := holding.Datum(g, l, j)
		if e != api.OK {
			wantError(t, "Datum", e, api.ErrGround)
			continue
		}
		found++
		out, e := holding.Jacks(g, l, j, datum)
		wantError(t, "Jacks", e, api.OK)
		if len(out) != len(g.Along) || slices.Min(out) != j.Least || slices.Max(out) > j.Most {
			t.Errorf("Jacks from %d to %d: %v", j.Least, j.Most, out)
		}
	}
	if found < 300 {
		t.Errorf("only %d grids have a datum", found)
	}
}
