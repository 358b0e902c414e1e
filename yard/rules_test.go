package yard_test

import (
	"fmt"
	"math"
	"math/rand"
	"reflect"
	"testing"

	"putlog/api"
	"putlog/yard"
)

// A function calls a function of the package with an input; the last result is the error.
type function struct {
	name string
	call func(x input) []any
}

// functions is all functions of the package but Parse and Moves, which name a line or a number beside an error.
func functions() []function {
	return []function{
		{"Check", func(x input) []any { return []any{yard.Check(x.stock)} }},
		{"Normal", func(x input) []any { l, e := yard.Normal(x.stock); return []any{l, e} }},
		{"Count", func(x input) []any { n, e := yard.Count(x.stock, x.part, x.at); return []any{n, e} }},
		{"Total", func(x input) []any { n, e := yard.Total(x.stock, x.part); return []any{n, e} }},
		{"CheckMovement", func(x input) []any { return []any{yard.CheckMovement(x.move)} }},
		{"Move", func(x input) []any { l, e := yard.Move(x.stock, x.move); return []any{l, e} }},
		{"Undo", func(x input) []any { m, e := yard.Undo(x.move); return []any{m, e} }},
		{"Pick", func(x input) []any { m, w, e := yard.Pick(x.stock, x.order); return []any{m, w, e} }},
		{"Mass", func(x input) []any { n, e := yard.Mass(x.wants, x.parts); return []any{n, e} }},
		{"Bundles", func(x input) []any { l, e := yard.Bundles(x.wants, x.parts, x.most); return []any{l, e} }},
		{"CheckLoads", func(x input) []any { return []any{yard.CheckLoads(x.items, x.lorry, x.loads)} }},
		{"Load", func(x input) []any { l, e := yard.Load(x.items, x.lorry); return []any{l, e} }},
		{"LeastLorries", func(x input) []any { n, e := yard.LeastLorries(x.items, x.lorry); return []any{n, e} }},
		{"CheckTraffic", func(x input) []any { return []any{yard.CheckTraffic(x.traffic)} }},
		{"Meet", func(x input) []any { l, n, e := yard.Meet(x.traffic); return []any{l, n, e} }},
		{"CheckTrips", func(x input) []any { n, e := yard.CheckTrips(x.traffic, x.trips); return []any{n, e} }},
		{"Cut", func(x input) []any { l, n, e := yard.Cut(x.traffic); return []any{l, n, e} }},
		{"CheckCut", func(x input) []any { n, e := yard.CheckCut(x.traffic, x.cut); return []any{n, e} }},
		{"Print", func(x input) []any { s, e := yard.Print(x.stock); return []any{s, e} }},
	}
}

// moves is Moves.
func moves() function {
	return function{"Moves", func(x input) []any { l, n, e := yard.Moves(x.stock, x.moves); return []any{l, n, e} }}
}

// roomy is a list with memory beyond its end.
func roomy[T any](l []T) []T { return append(make([]T, 0, len(l)+3), l...) }

// someInput is an input of small numbers, the lists of which have memory beyond their ends.
func someInput(d *rand.Rand) input {
	x := fine()
	x.stock = roomy(yardStock(d))
	x.part = partNames()[d.Intn(5)]
	x.move = someMovement(d, x.stock)
	x.moves = roomy([]api.Movement{x.move, someMovement(d, x.stock)})
	x.order = someOrder(d)
	x.order.Wants, x.order.Swaps = roomy(x.order.Wants), roomy(x.order.Swaps)
	x.wants, x.parts = roomy(x.wants), roomy(x.parts)
	x.most = 6000 + d.Intn(20000)
	x.items = roomy(items(d.Intn(5), d.Intn(9), d.Intn(9), d.Intn(9), 0))
	x.loads = roomy(someLoads(d, len(x.items)))
	for i := range x.loads {
		x.loads[i] = roomy(x.loads[i])
	}
	x.traffic = someTraffic(d, 3, 4, 9)
	x.traffic.Routes, x.traffic.Supplies, x.traffic.Needs = roomy(x.traffic.Routes), roomy(x.traffic.Supplies), roomy(x.traffic.Needs)
	x.trips = roomy(someTrips(d, x.traffic))
	x.cut = roomy(someCut(d, x.traffic))
	return x
}

// slicesOf calls a function for all slices within a value, also beyond the ends of others.
func slicesOf(v reflect.Value, call func(whole reflect.Value)) {
	switch v.Kind() {
	case reflect.Interface:
		slicesOf(v.Elem(), call)
	case reflect.Slice:
		whole := v.Slice(0, v.Cap())
		call(whole)
		for i := range whole.Len() {
			slicesOf(whole.Index(i), call)
		}
	case reflect.Struct:
		for i := range v.NumField() {
			slicesOf(v.Field(i), call)
		}
	}
}

// contents is what lies in the memory of all slices within a value.
func contents(x any) string {
	out := ""
	slicesOf(reflect.ValueOf(x), func(whole reflect.Value) { out += fmt.Sprintln(whole) })
	return out
}

// isShared reports whether any two slices within a value have memory in common.
func isShared(x any) bool {
	owners := map[uintptr]bool{}
	shared := false
	slicesOf(reflect.ValueOf(x), func(whole reflect.Value) {
		for i := range whole.Len() {
			at := whole.Index(i).Addr().Pointer()
			shared = shared || owners[at]
			owners[at] = true
		}
	})
	return shared
}

// argumentsOf is the arguments in an input.
func argumentsOf(x input) []any {
	return []any{x.stock, x.moves, x.order, x.wants, x.parts, x.items, x.loads, x.traffic, x.trips, x.cut}
}

// R3 and R4: a function leaves its argument as it is, shares no memory, and returns the same again.
func TestRulesOfInputs(t *testing.T) {
	d := dice()
	for range 200 {
		x := someInput(d)
		for _, f := range append(functions(), moves()) {
			before := contents(argumentsOf(x))
			first, second := f.call(x), f.call(x)
			if contents(argumentsOf(x)) != before {
				t.Errorf("%s writes into its argument", f.name)
			}
			if !same(first, second) {
				t.Errorf("%s returns %v, then %v", f.name, first, second)
			}
			if isShared(append(append(argumentsOf(x), first...), second...)) {
				t.Errorf("%s shares memory", f.name)
			}
		}
	}
	first, _, _ := yard.Parse(theStockText)
	second, _, _ := yard.Parse(theStockText)
	if !same(first, second) || isShared([]any{first, second}) {
		t.Errorf("Parse returns %v, then %v, or shares memory", first, second)
	}
}

// R4: great results are the same again, too.
func TestRulesOfGreatResults(t *testing.T) {
	d := dice()
	x := fine()
	x.stock = manyEntries(150)
	x.traffic = greatTraffic(d)
	x.items = items(7, 3, 9, 4, 4, 8, 1, 2, 6, 5, 5, 3)
	x.moves = nil
	for i := range 50 {
		x.moves = append(x.moves, way("q", -1, 0, 1+i))
	}
	for _, f := range append(functions(), moves()) {
		first := f.call(x)
		for range 20 {
			if again := f.call(x); !same(first, again) {
				t.Errorf("%s returns %v, then %v", f.name, first, again)
			}
		}
	}
}

// numbersOf calls a function for all numbers and texts within a value that can be set.
func numbersOf(v reflect.Value, call func(spot reflect.Value)) {
	switch v.Kind() {
	case reflect.Slice, reflect.Array:
		for i := range v.Len() {
			numbersOf(v.Index(i), call)
		}
	case reflect.Struct:
		for i := range v.NumField() {
			numbersOf(v.Field(i), call)
		}
	case reflect.Int, reflect.String:
		call(v)
	}
}

// spotsOf is all numbers and texts within an input, each of which can be set.
func spotsOf(x *input) []reflect.Value {
	out := []reflect.Value{}
	for _, p := range []any{&x.stock, &x.part, &x.at, &x.move, &x.moves, &x.order, &x.wants, &x.parts, &x.most,
		&x.items, &x.lorry, &x.loads, &x.traffic, &x.trips, &x.cut} {
		numbersOf(reflect.ValueOf(p).Elem(), func(spot reflect.Value) { out = append(out, spot) })
	}
	return out
}

// P1, R1 and R2: any numbers and texts may be anywhere. Beside an error all other results are zero.
func TestRulesOfAnything(t *testing.T) {
	d := dice()
	numbers := []int{math.MinInt, math.MinInt + 1, -1000001, -2, -1, 0, 0, 1, 1, 2, 3, 4, 5, 20, 21, 99, 100, 1000000, 1000001, 100000000, math.MaxInt - 1, math.MaxInt}
	texts := []string{"", "a", "tube", "half", "A", "a b", "\n", "\xff", "abcdefghijklm"}
	for range 10000 {
		x := fine()
		spots := spotsOf(&x)
		for range d.Intn(12) {
			if spot := spots[d.Intn(len(spots))]; spot.Kind() == reflect.Int {
				spot.SetInt(int64(numbers[d.Intn(len(numbers))]))
			} else {
				spot.SetString(texts[d.Intn(len(texts))])
			}
		}
		for _, f := range functions() {
			results := f.call(x)
			last := len(results) - 1
			for _, result := range results[:last] {
				if results[last] != api.OK && !reflect.ValueOf(result).IsZero() && !same(result, "[]") {
					t.Errorf("%s: %v beside error %d", f.name, result, results[last])
				}
			}
		}
		results := moves().call(x)
		if n := results[1].(int); results[2] == api.OK && n != len(x.moves) || results[2] != api.OK && (n < 0 || n >= len(x.moves) || !same(results[0], "[]")) {
			t.Errorf("Moves: %v", results)
		}
	}
	for _, f := range append(functions(), moves()) {
		f.call(input{})
	}
}

// P1 and R2: any bytes may be a text.
func TestRulesOfTexts(t *testing.T) {
	d := dice()
	bytes := "01 2 3-ab \n\xff"
	for range 20000 {
		s := []byte{}
		for range d.Intn(14) {
			s = append(s, bytes[d.Intn(len(bytes))])
		}
		l, line, e := yard.Parse(string(s))
		if again, f := yard.Print(l); e == api.OK && (f != api.OK || again != string(s)) || e != api.OK && len(l) > 0 || (line > 0) != (e == api.ErrSyntax) {
			t.Errorf("Parse of %q: %v, line %d, error %d", s, l, line, e)
		}
	}
}
