package holding_test

import (
	"fmt"
	"math/big"
	"math/rand"
	"slices"
	"testing"

	"putlog/api"
	"putlog/holding"
)

// The tests call the exported functions only. They compare with the chapter's definitions, written down
// once more: demands gone through one by one, all sets of places, fractions of math/big.

// dice is a repeatable row of chances.
func dice() *rand.Rand { return rand.New(rand.NewSource(7)) }

// same compares two values by their texts, in which a nil slice is as an empty one.
func same(a, b any) bool { return fmt.Sprint(a) == fmt.Sprint(b) }

// want compares what a call returns with what it should.
func want(t *testing.T, what string, got any, e api.Errno, right any, f api.Errno) {
	t.Helper()
	if !same(got, right) || e != f {
		t.Errorf("%s: %v, error %d; want %v, error %d", what, got, e, right, f)
	}
}

// wantError compares an error.
func wantError(t *testing.T, what string, e, right api.Errno) {
	t.Helper()
	if e != right {
		t.Errorf("%s: error %d, want %d", what, e, right)
	}
}

// intOf is the normal form of x.
func intOf(x *big.Int) api.Int {
	out := api.Int{Neg: x.Sign() < 0}
	for rest := new(big.Int).Abs(x); rest.Sign() > 0; rest.Rsh(rest, 32) {
		out.Limbs = append(out.Limbs, uint32(rest.Uint64()))
	}
	return out
}

// bigInt is the value of x.
func bigInt(x api.Int) *big.Int {
	out := new(big.Int)
	for i := len(x.Limbs) - 1; i >= 0; i-- {
		out.Lsh(out, 32)
		out.Or(out, big.NewInt(int64(x.Limbs[i])))
	}
	if x.Neg {
		out.Neg(out)
	}
	return out
}

// value is the value of x.
func value(x api.Rat) *big.Rat {
	den := bigInt(x.Den)
	if den.Sign() == 0 {
		den = big.NewInt(1)
	}
	return new(big.Rat).SetFrac(bigInt(x.Num), den)
}

// ratOf is the normal form of x.
func ratOf(x *big.Rat) api.Rat { return api.Rat{Num: intOf(x.Num()), Den: intOf(x.Denom())} }

// r is the fraction a/b in normal form.
func r(a, b int64) api.Rat { return ratOf(big.NewRat(a, b)) }

// odd is the fraction a/b in another form: both with the opposite sign and zeros behind the limbs.
func odd(a, b int64) api.Rat {
	x := api.Rat{Num: intOf(big.NewInt(-3 * a)), Den: intOf(big.NewInt(-3 * b))}
	x.Num.Limbs = append(x.Num.Limbs, 0)
	x.Den.Limbs = append(x.Den.Limbs, 0, 0)
	return x
}

// rats is fractions, numerators and denominators by turns.
func rats(l ...int64) []api.Rat {
	out := []api.Rat{}
	for i := 0; i < len(l); i += 2 {
		out = append(out, r(l[i], l[i+1]))
	}
	return out
}

func sumOf(l []api.Rat) *big.Rat {
	out := new(big.Rat)
	for _, x := range l {
		out.Add(out, value(x))
	}
	return out
}

// ties is ties, standards and levels by turns.
func ties(l ...int) []api.Tie {
	out := []api.Tie{}
	for i := 0; i < len(l); i += 2 {
		out = append(out, api.Tie{Standard: l[i], Level: l[i+1]})
	}
	return out
}

// demand is a demand with places.
func demand(standard, from int, places ...int) api.Demand {
	return api.Demand{Standard: standard, From: from, Places: places}
}

// theGrid is the grid of the chapter's examples.
func theGrid() api.Grid {
	return api.Grid{Along: []int{0, 2000, 4000}, Levels: []int{2000, 4000, 6000}}
}

// theRule is the rule of the chapter's examples.
func theRule() api.TieRule {
	return api.TieRule{Every: 4000, Free: 2000, Skip: 1, Margin: 100, Strength: 5000}
}

// even is a grid with so many standards and levels, at even distances.
func even(standards, levels int) api.Grid {
	var g api.Grid
	for i := range standards {
		g.Along = append(g.Along, 2000*i)
	}
	for k := range levels {
		g.Levels = append(g.Levels, 2000*(k+1))
	}
	return g
}

// allTies is the ties at all standards and levels of a grid.
func allTies(g api.Grid) []api.Tie {
	out := []api.Tie{}
	for i := range g.Along {
		for k := range g.Levels {
			out = append(out, api.Tie{Standard: i, Level: k})
		}
	}
	return out
}

// ascending is n different numbers from least to most.
func ascending(d *rand.Rand, n, least, most int) []int {
	out := d.Perm(most - least + 1)[:n]
	for i := range out {
		out[i] += least
	}
	slices.Sort(out)
	return out
}

// someGrid is a grid of small numbers, with at most so many standards and levels.
func someGrid(d *rand.Rand, standards, levels int) api.Grid {
	return api.Grid{Facade: d.Intn(40), Along: ascending(d, 1+d.Intn(standards), -9, 30), Levels: ascending(d, 1+d.Intn(levels), 1, 20)}
}

// someRule is a rule for such a grid.
func someRule(d *rand.Rand) api.TieRule {
	return api.TieRule{Every: 1 + d.Intn(15), Free: d.Intn(12), Skip: d.Intn(4), Margin: d.Intn(4), Strength: d.Intn(40)}
}

// someTies is some of the ties of a grid, at most so many.
func someTies(d *rand.Rand, g api.Grid, most int) []api.Tie {
	all := allTies(g)
	n := d.Intn(min(most, len(all)) + 1)
	out := []api.Tie{}
	for _, i := range ascending(d, n, 0, len(all)-1) {
		out = append(out, all[i])
	}
	return out
}

// demandsOf is the demands of a grid, as the chapter defines them.
func demandsOf(g api.Grid, r api.TieRule, l []api.Tie) []api.Demand {
	out := []api.Demand{}
	for i := range g.Along {
		for k := -1; k < len(g.Levels); k++ {
			h := 0
			if k >= 0 {
				h = g.Levels[k]
			}
			if g.Levels[len(g.Levels)-1] <= h+r.Free {
				continue
			}
			d := api.Demand{Standard: i, From: h}
			for n, tie := range l {
				z := g.Levels[tie.Level]
				if h < z && z <= h+r.Every && i-r.Skip <= tie.Standard && tie.Standard <= i+r.Skip {
					d.Places = append(d.Places, n)
				}
			}
			out = append(out, d)
		}
	}
	return out
}

// essentialOf is the numbers of the essential demands, as the chapter defines them.
func essentialOf(l []api.Demand) []int {
	out := []int{}
	for i, d := range l {
		needed := true
		for j, e := range l {
			isPart := !slices.ContainsFunc(e.Places, func(p int) bool { return !slices.Contains(d.Places, p) })
			isProper := isPart && len(e.Places) < len(d.Places)
			isSame := isPart && len(e.Places) == len(d.Places)
			if isProper || isSame && j < i {
				needed = false
			}
		}
		if needed {
			out = append(out, i)
		}
	}
	return out
}

// An input is arguments for all functions of the package.
type input struct {
	building api.Building
	grid     api.Grid
	rule     api.TieRule
	pattern  api.Pattern
	ties     []api.Tie
	demands  []api.Demand
	places   int
	weights  []api.Rat
	wind     []int
	ground   []api.Ground
	jack     api.Jack
	datum    int
	loads    []int
	boards   []api.Sole
	load     int
	bearing  int
	sole     api.Sole
}

// fine is an input that no function refuses.
func fine() input {
	return input{
		building: theHouse(),
		grid:     theGrid(),
		rule:     theRule(),
		pattern:  api.Pattern{Step: 2, Rise: 2, Shift: 1},
		ties:     ties(0, 1, 1, 1),
		demands:  []api.Demand{demand(0, 0, 0, 1), demand(1, 0, 1, 2)},
		places:   3,
		weights:  rats(1, 2, 1, 2),
		wind:     []int{1, 2, 3, 4, 5, 6, 7, 8, 9},
		ground:   theGround(),
		jack:     api.Jack{Least: 100, Most: 600, Sole: 50},
		datum:    450,
		loads:    []int{9000, 9000, 9000},
		boards:   []api.Sole{{Length: 300, Width: 300}},
		load:     9000,
		bearing:  1000,
		sole:     api.Sole{Length: 300, Width: 300},
	}
}

// A fault is a change of an input, and the error that it makes.
type fault struct {
	is     api.Errno
	change func(x *input)
}

// inOrder checks that a function accepts the fine input, refuses each fault, and of two faults tells the
// one that is listed first. Faults that are the same part of the list are one element of it.
func inOrder(t *testing.T, what string, call func(x input) api.Errno, list ...[]fault) {
	t.Helper()
	wantError(t, what+" of the fine input", call(fine()), api.OK)
	for i, faults := range list {
		for a, f := range faults {
			x := fine()
			f.change(&x)
			wantError(t, fmt.Sprintf("%s with fault %d.%d", what, i, a), call(x), f.is)
			for j := i + 1; j < len(list); j++ {
				for b, later := range list[j] {
					x := fine()
					later.change(&x)
					f.change(&x)
					wantError(t, fmt.Sprintf("%s with faults %d.%d and %d.%d", what, i, a, j, b), call(x), f.is)
				}
			}
		}
	}
}

// one is one fault.
func one(is api.Errno, change func(x *input)) []fault { return []fault{{is, change}} }

// buildingFault is the error of building.Check.
func buildingFault() []fault { return one(api.ErrName, func(x *input) { x.building.Name = "" }) }

// gridFault is the errors of CheckGrid; its first one comes before all others.
func gridFault() []fault {
	return []fault{
		{api.ErrRange, func(x *input) { x.grid.Facade = -1 }},
		{api.ErrShape, func(x *input) { x.grid.Levels = nil }},
		{api.ErrRange, func(x *input) { x.grid.Along = []int{0, 1, api.MaxCoord + 1} }},
		{api.ErrOrder, func(x *input) { x.grid.Along = []int{0, 2000, 2000} }},
	}
}

func ruleFault() []fault { return one(api.ErrRange, func(x *input) { x.rule.Every = 0 }) }

// tiesFault is the errors of ties, in their order.
func tiesFault() [][]fault {
	return [][]fault{
		one(api.ErrLarge, func(x *input) { x.ties = append(x.ties, make([]api.Tie, 1801)...) }),
		{
			{api.ErrMissing, func(x *input) { x.ties = append(x.ties, ties(3, 0)...) }},
			{api.ErrMissing, func(x *input) { x.ties = append(x.ties, ties(2, 30)...) }},
			{api.ErrMissing, func(x *input) { x.ties = append(ties(-1, 0), x.ties...) }},
			{api.ErrMissing, func(x *input) { x.ties = append(ties(0, -1), x.ties...) }},
		},
		{
			{api.ErrOrder, func(x *input) { x.ties = append(x.ties, ties(2, 2, 2, 2)...) }},
			{api.ErrOrder, func(x *input) { x.ties = append(x.ties, ties(2, 2, 2, 1)...) }},
			{api.ErrOrder, func(x *input) { x.ties = append(x.ties, ties(2, 1, 1, 2)...) }},
		},
	}
}

func groundFault() []fault {
	return []fault{
		{api.ErrShape, func(x *input) { x.ground = nil }},
		{api.ErrRange, func(x *input) { x.ground[0].Bearing = 0 }},
		{api.ErrOrder, func(x *input) { x.ground[1].From++ }},
	}
}

func jackFault() []fault { return one(api.ErrRange, func(x *input) { x.jack.Sole = -1 }) }

// besideFault is a standard that stands on no step.
func besideFault() []fault {
	return []fault{
		{api.ErrMissing, func(x *input) { x.ground[0].From = 1 }},
		{api.ErrMissing, func(x *input) { x.ground[1].To = 3999 }},
	}
}

// chain puts faults of several kinds into one list.
func chain(lists ...[][]fault) [][]fault { return slices.Concat(lists...) }

func of(lists ...[]fault) [][]fault { return lists }

// demandsFault is the errors of Demands, in their order.
func demandsFault() [][]fault { return chain(of(gridFault(), ruleFault()), tiesFault()) }

// theGround is the ground of the chapter's examples.
func theGround() []api.Ground {
	return []api.Ground{{From: -500, To: 3000, Bearing: 1000}, {From: 3000, To: 6000, Height: 300, Bearing: 1000}}
}

// theHouse is a house of 4000 by 3000 with two storeys; the upper one ends at 2000 along facade 0. There is a
// window in facade 0.
func theHouse() api.Building {
	return api.Building{
		Name: "house", Roof: 6000,
		Storeys: []api.Storey{
			{Outline: rectangle(0, 0, 4000, 3000)},
			{Floor: 3000, Outline: rectangle(0, 0, 2000, 3000)},
		},
		Openings: []api.Opening{{From: 500, To: 1500, Bottom: 900, Top: 2100}},
	}
}

func rectangle(x1, y1, x2, y2 int) []api.Point {
	return []api.Point{{X: x1, Y: y1}, {X: x2, Y: y1}, {X: x2, Y: y2}, {X: x1, Y: y2}}
}

func callDemands(x input) api.Errno {
	_, e := holding.Demands(x.grid, x.rule, x.ties)
	return e
}
