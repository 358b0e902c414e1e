package holding_test

import (
	"fmt"
	"math"
	"math/rand"
	"reflect"
	"testing"

	"putlog/api"
	"putlog/holding"
)

// A stretch is the memory of the elements of a slice.
type stretch struct{ from, to uintptr }

// memory lists the stretches of all slices within the values.
func memory(values ...any) []stretch {
	var out []stretch
	for _, v := range values {
		out = append(out, memoryOf(reflect.ValueOf(v))...)
	}
	return out
}

func memoryOf(v reflect.Value) []stretch {
	var out []stretch
	switch v.Kind() {
	case reflect.Interface:
		return memoryOf(v.Elem())
	case reflect.Slice:
		if v.Cap() > 0 {
			out = append(out, stretch{v.Pointer(), v.Pointer() + uintptr(v.Cap())*v.Type().Elem().Size()})
		}
		for i := range v.Len() {
			out = append(out, memoryOf(v.Index(i))...)
		}
	case reflect.Struct:
		for i := range v.NumField() {
			out = append(out, memoryOf(v.Field(i))...)
		}
	}
	return out
}

// shown shows values, and what lies in the memory of their slices beyond the ends.
func shown(v reflect.Value) string {
	out := ""
	switch v.Kind() {
	case reflect.Interface:
		return shown(v.Elem())
	case reflect.Slice:
		out += fmt.Sprint(v.Len())
		v = v.Slice(0, v.Cap())
		for i := range v.Len() {
			out += "," + shown(v.Index(i))
		}
	case reflect.Struct:
		for i := range v.NumField() {
			out += "." + shown(v.Field(i))
		}
	default:
		out = fmt.Sprint(v)
	}
	return out
}

// watch runs a call twice, and checks that it leaves its argument as it is, shares no memory, and returns
// the same again (R3 and R4).
func watch(t *testing.T, what string, argument any, call func() []any) {
	t.Helper()
	before := shown(reflect.ValueOf(argument))
	first, second := call(), call()
	if shown(reflect.ValueOf(argument)) != before {
		t.Errorf("%s writes into its argument", what)
	}
	if !same(first, second) {
		t.Errorf("%s returns %v, then %v", what, first, second)
	}
	all := memory(append(append([]any{argument}, first...), second...)...)
	own := len(memory(argument))
	for i := own; i < len(all); i++ {
		for j := range i {
			if all[i].from < all[j].to && all[j].from < all[i].to {
				t.Errorf("%s: a result shares memory", what)
				return
			}
		}
	}
}

// spare is a list with memory beyond its end.
func spare[T any](l []T) []T {
	var zero T
	return append(append([]T{}, l...), zero, zero, zero)[:len(l)]
}

// spareInput is an input whose lists have memory beyond their ends.
func spareInput(x input) input {
	b := &x.building
	b.Openings, b.Boxes, b.Storeys = spare(b.Openings), spare(b.Boxes), spare(b.Storeys)
	for i, s := range b.Storeys {
		b.Storeys[i].Outline = spare(s.Outline)
	}
	x.grid.Along, x.grid.Levels = spare(x.grid.Along), spare(x.grid.Levels)
	x.demands = spare(x.demands)
	for i, d := range x.demands {
		x.demands[i].Places = spare(d.Places)
	}
	x.ties, x.weights, x.wind, x.ground = spare(x.ties), spare(x.weights), spare(x.wind), spare(x.ground)
	x.loads, x.boards = spare(x.loads), spare(x.boards)
	return x
}

// someInput is an input of small numbers.
func someInput(d *rand.Rand) input {
	x := fine()
	x.building, x.grid, x.rule, x.ground = someBuilding(d), someGrid(d, 5, 5), someRule(d), someGround(d)
	x.grid.Facade = d.Intn(4)
	x.ties = someTies(d, x.grid, 12)
	x.demands = demandsOf(x.grid, x.rule, x.ties)
	x.places = len(x.ties)
	x.weights = []api.Rat{}
	for range x.demands {
		x.weights = append(x.weights, odd(int64(d.Intn(3)), 20))
	}
	x.wind = make([]int, len(x.grid.Along)*len(x.grid.Levels))
	for i := range x.wind {
		x.wind[i] = d.Intn(20)
	}
	x.loads = make([]int, len(x.grid.Along))
	x.boards = []api.Sole{board(1+d.Intn(5), 1+d.Intn(5)), board(1, 1)}
	x.jack = api.Jack{Most: 20}
	x.datum = 10
	return x
}

// A function calls a function of the package with an input; the last result is the error.
type function struct {
	name string
	call func(x input) []any
}

// functions is all functions of the package but Parse.
func functions() []function {
	return []function{
		{"CheckGrid", func(x input) []any { return []any{holding.CheckGrid(x.grid)} }},
		{"CheckRule", func(x input) []any { return []any{holding.CheckRule(x.rule)} }},
		{"Possible", func(x input) []any { l, e := holding.Possible(x.building, x.grid, x.rule); return []any{l, e} }},
		{"Select", func(x input) []any { l, e := holding.Select(x.grid, x.pattern); return []any{l, e} }},
		{"Demands", func(x input) []any { l, e := holding.Demands(x.grid, x.rule, x.ties); return []any{l, e} }},
		{"Essential", func(x input) []any { l, e := holding.Essential(x.demands); return []any{l, e} }},
		{"Held", func(x input) []any { is, d, e := holding.Held(x.grid, x.rule, x.ties); return []any{is, d, e} }},
		{"Choose", func(x input) []any { l, e := holding.Choose(x.grid, x.rule, x.ties); return []any{l, e} }},
		{"Bound", func(x input) []any { w, sum, e := holding.Bound(x.grid, x.rule, x.ties); return []any{w, sum, e} }},
		{"CheckBound", func(x input) []any {
			sum, e := holding.CheckBound(x.demands, x.places, x.weights)
			return []any{sum, e}
		}},
		{"Shares", func(x input) []any { l, e := holding.Shares(x.grid, x.ties, x.wind); return []any{l, e} }},
		{"Anchored", func(x input) []any { n, e := holding.Anchored(x.grid, x.rule, x.ties, x.wind); return []any{n, e} }},
		{"CheckGround", func(x input) []any { return []any{holding.CheckGround(x.ground)} }},
		{"HeightAt", func(x input) []any { n, e := holding.HeightAt(x.ground, x.datum); return []any{n, e} }},
		{"Datum", func(x input) []any { n, e := holding.Datum(x.grid, x.ground, x.jack); return []any{n, e} }},
		{"Jacks", func(x input) []any { l, e := holding.Jacks(x.grid, x.ground, x.jack, x.datum); return []any{l, e} }},
		{"Pressure", func(x input) []any { p, e := holding.Pressure(x.load, x.sole); return []any{p, e} }},
		{"Carries", func(x input) []any { is, e := holding.Carries(x.load, x.bearing, x.sole); return []any{is, e} }},
		{"Soles", func(x input) []any { l, e := holding.Soles(x.grid, x.ground, x.loads, x.boards); return []any{l, e} }},
		{"Print", func(x input) []any { s, e := holding.Print(x.ties); return []any{s, e} }},
	}
}

// R3 and R4.
func TestRulesOfInputs(t *testing.T) {
	d := dice()
	for range 300 {
		x := spareInput(someInput(d))
		for _, f := range functions() {
			watch(t, f.name, x, func() []any { return f.call(x) })
		}
		s, _ := holding.Print(x.ties)
		watch(t, "Parse", s, func() []any { l, e := holding.Parse(s); return []any{l, e} })
	}
}

// R3: a single weight shares no memory with the sum, and the weights none with each other.
func TestRulesOfSingleResults(t *testing.T) {
	g := api.Grid{Along: []int{0}, Levels: []int{1}}
	watch(t, "Bound", g, func() []any {
		w, sum, e := holding.Bound(g, api.TieRule{Every: 1}, ties(0, 0))
		return []any{w, sum, e}
	})
	w := spare(rats(1, 1))
	watch(t, "CheckBound", w, func() []any {
		sum, e := holding.CheckBound([]api.Demand{demand(0, 0, 0)}, 1, w)
		return []any{sum, e}
	})
}

// P1, R1 and R2: any numbers may be anywhere. Beside an error all other results are zero.
func TestRulesOfAnything(t *testing.T) {
	d := dice()
	values := []int{math.MinInt, -2000001, -1000001, -1, 0, 0, 1, 1, 2, 3, 10, 31, 100, 1000, 10001, 1000001, math.MaxInt}
	for range 20000 {
		x := someInput(d)
		spots := []*int{
			&x.building.Roof, &x.building.Storeys[0].Floor, &x.grid.Facade, &x.grid.Along[0], &x.grid.Levels[0],
			&x.rule.Every, &x.rule.Free, &x.rule.Skip, &x.rule.Margin, &x.rule.Strength,
			&x.pattern.Step, &x.pattern.Rise, &x.pattern.Shift, &x.places, &x.wind[0],
			&x.ground[0].From, &x.ground[0].To, &x.ground[0].Height, &x.ground[0].Bearing,
			&x.jack.Least, &x.jack.Most, &x.jack.Sole, &x.datum, &x.loads[0], &x.boards[0].Length, &x.boards[0].Width,
			&x.load, &x.bearing, &x.sole.Length, &x.sole.Width,
		}
		for i := range x.ties {
			spots = append(spots, &x.ties[i].Standard, &x.ties[i].Level)
		}
		for _, e := range x.demands {
			for i := range e.Places {
				spots = append(spots, &e.Places[i])
			}
		}
		for range d.Intn(4) {
			*spots[d.Intn(len(spots))] = values[d.Intn(len(values))]
		}
		for _, f := range functions() {
			results := f.call(x)
			last := len(results) - 1
			for _, result := range results[:last] {
				if results[last] != api.OK && !reflect.ValueOf(result).IsZero() {
					t.Errorf("%s: %v beside error %d", f.name, result, results[last])
				}
			}
		}
	}
	for _, f := range functions() {
		f.call(input{})
	}
}

// P1 and R2: any bytes may be a text.
func TestRulesOfTexts(t *testing.T) {
	d := dice()
	for range 20000 {
		s := []byte{}
		for range d.Intn(12) {
			s = append(s, "0123456789.. -+a\n\xff"[d.Intn(18)])
		}
		l, e := holding.Parse(string(s))
		if again, f := holding.Print(l); e == api.OK && (f != api.OK || again != string(s)) || e != api.OK && len(l) > 0 {
			t.Errorf("Parse of %q: %v, error %d", s, l, e)
		}
	}
}
