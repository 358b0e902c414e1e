package yard_test

import (
	"slices"
	"testing"

	"putlog/api"
	"putlog/yard"
)

// totals is the totals of all parts of a stock.
func totals(t *testing.T, l []api.Stock) map[string]int {
	t.Helper()
	out := map[string]int{}
	for _, part := range partNames() {
		n, e := yard.Total(l, part)
		wantError(t, "Total", e, api.OK)
		out[part] = n
	}
	return out
}

// P8.9: what movements do to totals, and what their opposites do.
func TestTotalsAndOpposites(t *testing.T) {
	d := dice()
	purchases, removals, undone := 0, 0, 0
	for range 3000 {
		l := someStock(d, 30)
		m := someMovement(d, l)
		after, e := yard.Move(l, m)
		if e != api.OK {
			continue
		}
		right := totals(t, l)
		switch {
		case m.From == -1:
			right[m.Part] += m.Count
			purchases++
		case m.To == -1:
			right[m.Part] -= m.Count
			removals++
		}
		want(t, "the totals behind a movement", totals(t, after), e, right, api.OK)
		back, e := yard.Undo(m)
		if e != api.OK {
			continue
		}
		undone++
		before, e := yard.Move(after, back)
		normal, f := yard.Normal(l)
		want(t, "the stock behind the opposite", before, e, normal, f)
		both, n, e := yard.Moves(l, []api.Movement{m, back})
		want(t, "the stock behind both", []any{both, n}, e, []any{normal, 2}, f)
		again, e := yard.Undo(back)
		want(t, "the opposite of the opposite", again, e, m, api.OK)
	}
	if purchases < 50 || removals < 50 || undone < 300 {
		t.Errorf("%d purchases, %d removals, %d movements were undone", purchases, removals, undone)
	}
}

// P8.9: Moves is Move one after the other.
func TestMovesByMove(t *testing.T) {
	d := dice()
	for range 1000 {
		l := someStock(d, 30)
		list := []api.Movement{}
		right, e := yard.Normal(l)
		n := 0
		for range 1 + d.Intn(6) {
			m := someMovement(d, right)
			list = append(list, m)
			if e == api.OK {
				if right, e = yard.Move(right, m); e == api.OK {
					n++
				}
			}
		}
		got, at, f := yard.Moves(l, list)
		want(t, "Moves", []any{got, at}, f, []any{right, n}, e)
	}
}

// P8.10: what Pick moves can be moved; together with what is lacking it is what was wanted.
func TestPickedAndLacking(t *testing.T) {
	d := dice()
	for range 2000 {
		l, o := yardStock(d), someOrder(d)
		for i := range o.Swaps { // so that it is seen what a part By replaces
			o.Swaps[i].By = "x"
			o.Swaps[i].Count = 3
		}
		l = append(l, entry("x", 0, good, d.Intn(60)))
		moves, lacking, e := yard.Pick(l, o)
		wantError(t, "Pick", e, api.OK)
		after, n, e := yard.Moves(l, moves)
		if n != len(moves) || e != api.OK {
			t.Errorf("Moves of Pick: %d, error %d", n, e)
		}
		all, missing := 0, 0
		for _, w := range o.Wants {
			all += w.Count
		}
		for _, w := range lacking {
			missing += w.Count
		}
		for _, m := range moves {
			if m.Part == "x" {
				all -= m.Count / 3
			} else {
				all -= m.Count
			}
		}
		if all != missing {
			t.Errorf("Pick of %v: %v, %v", o, moves, lacking)
		}
		for _, w := range lacking { // nothing good is left of it
			left, e := yard.Count(after, w.Part, [2]int{0, good})
			want(t, "Count of what is lacking", left, e, 0, api.OK)
		}
	}
}

// P8.11: bundles have the mass and the parts of their wants, and none is too heavy; they go on lorries.
func TestBundlesOnLorries(t *testing.T) {
	d := dice()
	loaded := 0
	for range 1000 {
		parts := []api.Part{}
		for _, name := range partNames()[:4] {
			parts = append(parts, api.Part{Name: name, Square: d.Intn(50), Mass: 1 + d.Intn(300)})
		}
		w := []api.Want{}
		for range d.Intn(4) {
			w = append(w, api.Want{Part: partNames()[d.Intn(4)], Count: d.Intn(20)})
		}
		most := 300 + d.Intn(2000)
		l, e := yard.Bundles(w, parts, most)
		wantError(t, "Bundles", e, api.OK)
		counts := map[string]int{}
		sum := 0
		for _, x := range l {
			p := partCalled(parts, x.Name)
			if x.Mass > most || x.Mass%p.Mass != 0 || x.Mass == 0 || x.Length != lengthOf(p.Square) {
				t.Errorf("Bundles: %v with at most %d of %v", x, most, p)
			}
			counts[x.Name] += x.Mass / p.Mass
			sum += x.Mass
		}
		for _, x := range w {
			counts[x.Part] -= x.Count
		}
		for part, n := range counts {
			if n != 0 {
				t.Errorf("Bundles: %d of %s too many", n, part)
			}
		}
		mass, e := yard.Mass(w, parts)
		want(t, "Mass", mass, e, sum, api.OK)
		lorry := api.Lorry{Mass: most + d.Intn(2000), Length: 8}
		loads, e := yard.Load(l, lorry)
		if e == api.ErrLarge && len(l) > 12 {
			continue
		}
		wantError(t, "Load", e, api.OK)
		wantError(t, "CheckLoads", yard.CheckLoads(l, lorry, loads), api.OK)
		least, e := yard.LeastLorries(l, lorry)
		if e != api.OK || least > len(loads) || loadsError(l, lorry, loads) != api.OK {
			t.Errorf("LeastLorries of %v: %d, error %d; Load: %v", l, least, e, loads)
		}
		loaded++
	}
	if loaded < 500 {
		t.Errorf("only %d lists of bundles are loaded", loaded)
	}
}

// P8.11: no right loading has fewer lorries than LeastLorries.
func TestLeastLorriesByLoadings(t *testing.T) {
	d := dice()
	right := 0
	for range 5000 {
		masses := []int{}
		for range d.Intn(7) {
			masses = append(masses, d.Intn(9))
		}
		l, lorry := items(masses...), api.Lorry{Mass: 8 + d.Intn(8), Length: 1}
		loads := someLoads(d, len(l))
		if yard.CheckLoads(l, lorry, loads) != api.OK {
			continue
		}
		right++
		least, e := yard.LeastLorries(l, lorry)
		best, f := yard.Load(l, lorry)
		if e != api.OK || f != api.OK || least > len(best) || len(best) > len(loads) {
			t.Errorf("%v on lorries of %d: least %d, error %d; Load %v, error %d; also %v", masses, lorry.Mass, least, e, best, f, loads)
		}
	}
	if right < 500 {
		t.Errorf("only %d loadings are right", right)
	}
}

// P8.12: what is met by fewer trips is no more.
func TestFewerTrips(t *testing.T) {
	d := dice()
	for range 1000 {
		x := someTraffic(d, 4, 6, 9)
		l, met, e := yard.Meet(x)
		wantError(t, "Meet", e, api.OK)
		capacity, e := yard.CheckCut(x, someWholeCut(x, d.Intn(1<<x.Places)))
		if e != api.OK || capacity < met {
			t.Errorf("CheckCut of whole places of %v: %d, error %d; %d are met", x, capacity, e, met)
		}
		if len(l) == 0 {
			continue
		}
		fewer := slices.Clone(l)
		fewer[d.Intn(len(l))].Count = 1
		if n, e := yard.CheckTrips(x, fewer); e == api.OK && n > met || e != api.OK && e != api.ErrStock {
			t.Errorf("CheckTrips of %v: %d, error %d; Meet has %d", fewer, n, e, met)
		}
	}
}

// someWholeCut is all days of some places, those of which a number has the bit.
func someWholeCut(t api.Traffic, bits int) [][2]int {
	l := [][2]int{}
	for place := range t.Places {
		for day := range t.Days {
			if bits>>place&1 == 1 {
				l = append(l, [2]int{place, day})
			}
		}
	}
	return l
}
