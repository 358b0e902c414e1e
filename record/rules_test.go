package record_test

import (
	"fmt"
	"math"
	"math/rand"
	"reflect"
	"strconv"
	"testing"

	"putlog/api"
)

// roomy is a list with memory beyond its end.
func roomy[T any](l []T) []T { return append(make([]T, 0, len(l)+3), l...) }

// someInput is an input of small numbers, the lists of which have memory beyond their ends.
func someInput(d *rand.Rand) input {
	x := fine()
	x.events = roomy(append(someRecord(d, 30), storm(200)))
	x.event = someEvent(d, 3, 200, 0)
	x.at = len(x.events) - 1
	x.platform = platformNames()[d.Intn(3)]
	x.day, x.from, x.to = d.Intn(40), d.Intn(20), 20+d.Intn(20)
	x.terms = roomy(someTerms(d))
	x.moves = roomy(someMoves(d, x.terms, 30))
	x.charges = roomy(x.charges)
	return x
}

// slicesOf calls a function for all slices within a value, also beyond the ends of others.
func slicesOf(v reflect.Value, call func(whole reflect.Value)) {
	switch v.Kind() {
	case reflect.Interface:
		slicesOf(v.Elem(), call)
	case reflect.Slice:
		whole := v.Slice(0, v.Cap())
		call(whole)
		for i := range whole.Len() {
			slicesOf(whole.Index(i), call)
		}
	}
}

// contents is what lies in the memory of all slices within a value.
func contents(x any) string {
	out := ""
	slicesOf(reflect.ValueOf(x), func(whole reflect.Value) { out += fmt.Sprintln(whole) })
	return out
}

// isShared reports whether any two slices within a value have memory in common.
func isShared(x any) bool {
	owners := map[uintptr]bool{}
	shared := false
	slicesOf(reflect.ValueOf(x), func(whole reflect.Value) {
		for i := range whole.Len() {
			at := whole.Index(i).Addr().Pointer()
			shared = shared || owners[at]
			owners[at] = true
		}
	})
	return shared
}

// argumentsOf is the lists in an input.
func argumentsOf(x input) []any { return []any{x.events, x.terms, x.moves, x.charges} }

// R3 and R4: a function leaves its argument as it is, shares no memory, and returns the same again.
func TestRulesOfInputs(t *testing.T) {
	d := dice()
	for range 300 {
		x := someInput(d)
		for name, call := range functions() {
			before := contents(argumentsOf(x))
			first, second := call(x), call(x)
			if contents(argumentsOf(x)) != before {
				t.Errorf("%s writes into its argument", name)
			}
			if !same(first, second) {
				t.Errorf("%s returns %v, then %v", name, first, second)
			}
			if isShared(append(append(argumentsOf(x), first...), second...)) {
				t.Errorf("%s shares memory", name)
			}
		}
	}
}

// greatInput is an input with as many events, terms and moves as there may be.
func greatInput() input {
	x := fine()
	x.events = nil
	for i := range 399 {
		x.events = append(x.events, grave(i/9, "a", (i*7919)%10000))
	}
	x.at, x.event = 398, alteration(50, "b")
	x.from, x.to, x.day = 0, 20000, 100
	x.terms = manyTerms(60)
	x.moves = nil
	for i := range 300 {
		x.moves = append(x.moves, delivered(i/9, "p"+strconv.Itoa(i%60), 1+i))
	}
	return x
}

// R4: great results are the same again, too, whatever the order in which a map is gone through.
func TestRulesOfGreatResults(t *testing.T) {
	x := greatInput()
	for name, call := range functions() {
		wantError(t, name+" of the great input", errorOf(t, name, x), api.OK)
		first := call(x)
		for range 20 {
			if again := call(x); !same(first, again) {
				t.Errorf("%s returns %v, then %v", name, first, again)
			}
		}
	}
}

// spotsOf calls a function for all numbers, texts and truth values within a value that can be set.
func spotsOf(v reflect.Value, call func(spot reflect.Value)) {
	switch v.Kind() {
	case reflect.Slice:
		for i := range v.Len() {
			spotsOf(v.Index(i), call)
		}
	case reflect.Struct:
		for i := range v.NumField() {
			spotsOf(v.Field(i), call)
		}
	default:
		call(v)
	}
}

// allSpots is all numbers, texts and truth values of an input, each of which can be set.
func allSpots(x *input) []reflect.Value {
	out := []reflect.Value{}
	for _, p := range []any{&x.events, &x.event, &x.at, &x.platform, &x.day, &x.from, &x.to, &x.terms, &x.moves, &x.in, &x.out, &x.least, &x.charges} {
		spotsOf(reflect.ValueOf(p).Elem(), func(spot reflect.Value) { out = append(out, spot) })
	}
	return out
}

// P1, R1 and R2: anything may be anywhere. Beside an error all other results are zero.
func TestRulesOfAnything(t *testing.T) {
	d := dice()
	numbers := []int{math.MinInt, math.MinInt + 1, -20001, -8, -1, 0, 0, 1, 1, 2, 3, 4, 5, 6, 7, 9999, 10000, 20000, 20001, 100000, 1000000, math.MaxInt - 7, math.MaxInt}
	texts := []string{"", "a", "b", "std", "board", "A", "a b", "\n", "\xff", "abcdefghijklm"}
	accepted := 0
	for range 10000 {
		x := fine()
		spots := allSpots(&x)
		for range d.Intn(6) {
			switch spot := spots[d.Intn(len(spots))]; spot.Kind() {
			case reflect.Int:
				spot.SetInt(int64(numbers[d.Intn(len(numbers))]))
			case reflect.String:
				spot.SetString(texts[d.Intn(len(texts))])
			case reflect.Bool:
				spot.SetBool(!spot.Bool())
			}
		}
		for name := range functions() {
			if errorOf(t, name, x) == api.OK {
				accepted++
			}
		}
	}
	if accepted < 10000 {
		t.Errorf("only %d calls were accepted", accepted)
	}
	for name, call := range functions() {
		call(input{})
		x := greatInput()
		x.event, x.events, x.moves = api.Event{}, make([]api.Event, 500), make([]api.Move, 500)
		x.terms, x.charges = make([]api.Term, 500), make([]api.Charge, 5000)
		errorOf(t, name, x)
	}
}
