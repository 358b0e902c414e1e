package layout_test

import (
	"testing"

	"putlog/api"
	"putlog/layout"
)

// roundSystem is the system of the examples with a width that suits its unit.
func roundSystem() api.System {
	s := theSystem()
	s.Width = 500
	return s
}

// block is a square house of a size.
func block(size int) api.Building { return house(4500, 0, 0, size, 0, size, size, 0, size) }

// P3.5: best layouts that can be told by hand, round a square and an L.
func TestBestExamples(t *testing.T) {
	for _, c := range []struct {
		what string
		b    api.Building
		cost api.Cost
	}{
		// Runs of 5000 close with two bays, those of 6000 with two bays and a bay of 1000: two of each cost
		// 2 odd parts; four of 5500 cost 4 (two bays and a board each).
		{"a square of 4400", block(4400), api.Cost{Odd: 2, Bays: 10}},
		// Runs of 2000, 2500 or 3000: 2500 closes with one bay.
		{"a square of 1400", block(1400), api.Cost{Odd: 0, Bays: 4}},
	} {
		l, p := best(t, c.b, roundSystem())
		wantError(t, c.what+": CheckLayout", layout.CheckLayout(c.b, roundSystem(), l), api.OK)
		wantError(t, c.what+": CheckProof", layout.CheckProof(c.b, roundSystem(), l, p), api.OK)
		got, e := layout.Total(c.b, roundSystem(), l)
		want(t, c.what+": Total", got, e, c.cost, api.OK)
	}
}

// P3.5: what Best and Blocked refuse.
func TestBestErrors(t *testing.T) {
	thin := api.System{Bays: []int{1}, Width: 1, Lift: 2000}
	for _, c := range []struct {
		what          string
		b             api.Building
		s             api.System
		blocked, best api.Errno
	}{
		{"no building", api.Building{}, theSystem(), api.ErrName, api.ErrName},
		{"no system", square(), api.System{}, api.ErrShape, api.ErrShape},
		{"a low house", square(), api.System{Bays: []int{1}, Width: 1, Lift: 5000}, api.ErrRange, api.ErrRange},
		{"runs of 4000 units", house(4500, 0, 0, 3998, 0, 3998, 400, 0, 400), thin, api.OK, api.OK},
		{"a run of 4001 units with both corners", house(4500, 0, 0, 3999, 0, 3999, 400, 0, 400), thin, api.ErrLarge, api.ErrLarge},
		{"the same of another facade", house(4500, 0, 0, 400, 0, 400, 3999, 0, 3999), thin, api.ErrLarge, api.ErrLarge},
		{"a run that is no multiple of the unit", house(4500, 0, 0, 9999, 0, 9999, 400, 0, 400), bays(2), api.ErrLarge, api.ErrLarge},
		// Runs of 6000 can be closed, those of 5300 and 4600 cannot: no facade is blocked, but two that meet.
		{"the chapter's square", square(), theSystem(), api.OK, api.ErrGap},
	} {
		blocked, e := layout.Blocked(c.b, c.s)
		want(t, c.what+": Blocked", blocked, e, []int{}, c.blocked)
		l, p, e := layout.Best(c.b, c.s)
		if c.best == api.OK {
			wantError(t, c.what, e, api.OK)
			wantError(t, c.what, layout.CheckProof(c.b, c.s, l, p), api.OK)
			continue
		}
		want(t, c.what, l, e, api.Layout{}, c.best)
		want(t, c.what, p, e, api.Proof{}, c.best)
	}
	// The lengths of two facades are 1000 and 4000 with no corner, those of the others 2000 and more.
	blocked, e := layout.Blocked(house(4500, 0, 0, 1400, 0, 1400, 400, 0, 400), bays(2000))
	want(t, "Blocked", blocked, e, []int{1, 3}, api.OK)
}

// A round is a building and a system, with the codes of its runs by facade and choices, told one by one.
type round struct {
	b     api.Building
	s     api.System
	codes [][2][2]int
}

// roundOf is the round of what CheckRing accepts.
func roundOf(t *testing.T, b api.Building, s api.System) round {
	out := round{b: b, s: s}
	known := map[int]int{}
	for i := range b.Storeys[0].Outline {
		var codes [2][2]int
		for begin := range 2 {
			for end := range 2 {
				n := runOf(t, b, s, i, begin, end).length
				if _, is := known[n]; !is {
					known[n] = leastCode(s, n)
				}
				codes[begin][end] = known[n]
			}
		}
		out.codes = append(out.codes, codes)
	}
	return out
}

// best is the least code of all choices for the corners, or -1.
func (r round) best() int {
	n := len(r.codes)
	best := -1
	for bits := range 1 << n {
		sum := 0
		for i, codes := range r.codes {
			c := codes[bits>>i&1][bits>>((i+1)%n)&1]
			if c < 0 {
				sum = -1
				break
			}
			sum += c
		}
		if sum >= 0 && (best < 0 || sum < best) {
			best = sum
		}
	}
	return best
}

// blocked is the facades that cannot be closed.
func (r round) blocked() []int {
	var out []int
	for i, codes := range r.codes {
		if codes == [2][2]int{{-1, -1}, {-1, -1}} {
			out = append(out, i)
		}
	}
	return out
}

// someRound is a house with a system round it.
func someRound(t *testing.T, unit int) func() round {
	d := dice()
	return func() round {
		for {
			b, s := someHouse(d), someSystem(d, unit)
			if layout.CheckRing(b, s) == api.OK {
				return roundOf(t, b, s)
			}
		}
	}
}

// P3.5: of all choices for the corners, none costs less; and the proofs are right.
func TestBestOfAll(t *testing.T) {
	for unit := 1; unit <= 3; unit++ {
		next := someRound(t, unit)
		found, none, stuck := 0, 0, 0
		for range 300 {
			r := next()
			blocked, e := layout.Blocked(r.b, r.s)
			want(t, "Blocked", blocked, e, r.blocked(), api.OK)
			l, p, e := layout.Best(r.b, r.s)
			right := r.best()
			if right < 0 {
				none++
				if len(blocked) == 0 {
					stuck++
				}
				want(t, "Best", l, e, api.Layout{}, api.ErrGap)
				want(t, "Best", p, e, api.Proof{}, api.ErrGap)
				continue
			}
			found++
			wantError(t, "Best", e, api.OK)
			wantError(t, "CheckLayout", layout.CheckLayout(r.b, r.s, l), api.OK)
			wantError(t, "CheckProof", layout.CheckProof(r.b, r.s, l, p), api.OK)
			cost, e := layout.Total(r.b, r.s, l)
			want(t, "the code of Best", codeOf(cost), e, right, api.OK)
		}
		if found < 10 || unit > 1 && (none < 20 || stuck < 5) {
			t.Errorf("unit %d: %d layouts, %d without, %d of them without a blocked facade", unit, found, none, stuck)
		}
	}
}
