package yard_test

import (
	"fmt"
	"math/rand"
	"slices"
	"strconv"
	"testing"

	"putlog/api"
)

// The tests call the exported functions only. They compare with the chapter's definitions, written down
// once more: entry by entry, part by part, with all loadings and all cuts.

// dice is a repeatable row of chances.
func dice() *rand.Rand { return rand.New(rand.NewSource(8)) }

// same compares two values by their texts, in which a nil slice is as an empty one.
func same(a, b any) bool { return fmt.Sprint(a) == fmt.Sprint(b) }

// want compares what a call returns with what it should.
func want(t *testing.T, what string, got any, e api.Errno, right any, f api.Errno) {
	t.Helper()
	if !same(got, right) || e != f {
		t.Errorf("%s: %v, error %d; want %v, error %d", what, got, e, right, f)
	}
}

// wantError compares an error.
func wantError(t *testing.T, what string, e, right api.Errno) {
	t.Helper()
	if e != right {
		t.Errorf("%s: error %d, want %d", what, e, right)
	}
}

// The states by names.
const (
	good = iota
	damaged
	inRepair
	quarantine
)

// entry is an entry of a stock.
func entry(part string, place, state, count int) api.Stock {
	return api.Stock{Part: part, Place: place, State: state, Count: count}
}

// way is a movement of good parts from a place to another one.
func way(part string, from, to, count int) api.Movement {
	return api.Movement{Part: part, From: from, To: to, Count: count}
}

// change is a movement of parts at a place from a state to another one.
func change(part string, place, before, after, count int) api.Movement {
	return api.Movement{Part: part, From: place, To: place, Before: before, After: after, Count: count}
}

// wants is wants, parts and counts by turns.
func wants(l ...any) []api.Want {
	out := []api.Want{}
	for i := 0; i < len(l); i += 2 {
		out = append(out, api.Want{Part: l[i].(string), Count: l[i+1].(int)})
	}
	return out
}

// swaps is swaps; Part, By and Count by turns.
func swaps(l ...any) []api.Swap {
	out := []api.Swap{}
	for i := 0; i < len(l); i += 3 {
		out = append(out, api.Swap{Part: l[i].(string), By: l[i+1].(string), Count: l[i+2].(int)})
	}
	return out
}

// bundles is items; Name, Mass and Length by turns.
func bundles(l ...any) []api.Item {
	out := []api.Item{}
	for i := 0; i < len(l); i += 3 {
		out = append(out, api.Item{Name: l[i].(string), Mass: l[i+1].(int), Length: l[i+2].(int)})
	}
	return out
}

// theStock is the stock of the chapter's examples, with the halves of the picking.
func theStock() []api.Stock {
	return []api.Stock{entry("tube", 0, good, 15), entry("half", 0, good, 7), entry("tube", 2, damaged, 3)}
}

// theOrder is the order of the chapter's examples, with a second want and a second swap.
func theOrder() api.Order {
	return api.Order{
		Place: 1,
		Wants: wants("tube", 20, "clip", 1),
		Swaps: swaps("tube", "half", 2, "clip", "tie", 1),
	}
}

// theParts is two parts, of the lengths 2000 and 1415.
func theParts() []api.Part {
	return []api.Part{{Name: "tube", Square: 4000000, Mass: 6000}, {Name: "half", Square: 2000001, Mass: 500}}
}

// items is items of the length 1 and of so many grams.
func items(masses ...int) []api.Item {
	out := []api.Item{}
	for i, m := range masses {
		out = append(out, api.Item{Name: "i" + strconv.Itoa(i), Mass: m, Length: 1})
	}
	return out
}

// route is a route.
func route(from, to, days, most int) api.Route {
	return api.Route{From: from, To: to, Days: days, Most: most}
}

// supplies is supplies or needs; Place, Day and Count by turns.
func supplies(l ...int) []api.Supply {
	out := []api.Supply{}
	for i := 0; i < len(l); i += 3 {
		out = append(out, api.Supply{Place: l[i], Day: l[i+1], Count: l[i+2]})
	}
	return out
}

// trips is trips; Route, Day and Count by turns.
func trips(l ...int) []api.Trip {
	out := []api.Trip{}
	for i := 0; i < len(l); i += 3 {
		out = append(out, api.Trip{Route: l[i], Day: l[i+1], Count: l[i+2]})
	}
	return out
}

// theTraffic is the traffic of the chapter's examples.
func theTraffic() api.Traffic {
	return api.Traffic{
		Places: 2, Days: 3,
		Routes:   []api.Route{route(0, 1, 1, 4)},
		Supplies: supplies(0, 0, 10),
		Needs:    supplies(1, 2, 9),
	}
}

// An input is arguments for all functions of the package.
type input struct {
	stock   []api.Stock
	part    string
	at      [2]int
	move    api.Movement
	moves   []api.Movement
	order   api.Order
	wants   []api.Want
	parts   []api.Part
	most    int
	items   []api.Item
	lorry   api.Lorry
	loads   [][]int
	traffic api.Traffic
	trips   []api.Trip
	cut     [][2]int
}

// fine is an input that no function refuses.
func fine() input {
	return input{
		stock: theStock(),
		part:  "tube",
		move:  way("tube", 0, 2, 4),
		moves: []api.Movement{way("tube", 0, 2, 4), change("tube", 2, good, damaged, 4), way("half", 0, -1, 7)},
		order: theOrder(),
		wants: wants("tube", 10, "half", 3),
		parts: theParts(),
		most:  25000,
		items: items(6, 5, 4, 3),
		lorry: api.Lorry{Mass: 9, Length: 1},
		loads: [][]int{{0, 3}, {1, 2}},
		traffic: api.Traffic{
			Places: 3, Days: 4,
			Routes:   []api.Route{route(0, 1, 1, 4), route(1, 2, 2, 3)},
			Supplies: supplies(0, 0, 10, 1, 0, 1),
			Needs:    supplies(1, 2, 9, 2, 3, 4),
		},
		trips: trips(0, 0, 4, 1, 1, 2),
		cut:   [][2]int{{0, 2}, {0, 3}, {2, 3}},
	}
}

// A fault is a change of an input, and the error that it makes.
type fault struct {
	is     api.Errno
	change func(x *input)
}

// inOrder checks that a function accepts the fine input, refuses each fault, and of two faults tells the
// one that is listed first. Faults that are the same part of the list are one element of it.
func inOrder(t *testing.T, what string, call func(x input) api.Errno, list ...[]fault) {
	t.Helper()
	wantError(t, what+" of the fine input", call(fine()), api.OK)
	for i, faults := range list {
		for a, f := range faults {
			x := fine()
			f.change(&x)
			wantError(t, fmt.Sprintf("%s with fault %d.%d", what, i, a), call(x), f.is)
			for j := i + 1; j < len(list); j++ {
				for b, later := range list[j] {
					x := fine()
					later.change(&x)
					f.change(&x)
					wantError(t, fmt.Sprintf("%s with faults %d.%d and %d.%d", what, i, a, j, b), call(x), f.is)
				}
			}
		}
	}
}

// one is one fault.
func one(is api.Errno, change func(x *input)) []fault { return []fault{{is, change}} }

// names is texts that are no names.
func names() []string {
	return []string{"", "9", "-a", "a b", "abcdefghijklm", "a\n", "\xff", "a.", "a_", "\u00e9"}
}

// misnamed is faults for a name at a spot of the input.
func misnamed(spot func(x *input) *string) []fault {
	out := []fault{}
	for _, s := range names() {
		out = append(out, fault{api.ErrName, func(x *input) { *spot(x) = s }})
	}
	return out
}

// beyond is faults for a number at a spot of the input that must be from low to high.
func beyond(is api.Errno, low, high int, spot func(x *input) *int) []fault {
	out := []fault{}
	for _, n := range []int{low - 1, high + 1, -1 << 63, 1<<63 - 1} {
		out = append(out, fault{is, func(x *input) { *spot(x) = n }})
	}
	return out
}

// within checks that a function accepts the least and the greatest number at a spot of the input.
func within(t *testing.T, what string, low, high int, spot func(x *input) *int, call func(x input) api.Errno) {
	t.Helper()
	for _, n := range []int{low, high} {
		x := fine()
		*spot(&x) = n
		wantError(t, what+" with "+strconv.Itoa(n), call(x), api.OK)
	}
}

// stockFaults is the errors of Check, in their order.
func stockFaults() [][]fault {
	list := [][]fault{one(api.ErrLarge, func(x *input) { x.stock = append(x.stock, manyEntries(200)...) })}
	for i := range 2 {
		list = append(list,
			misnamed(func(x *input) *string { return &x.stock[i].Part }),
			slices.Concat(
				beyond(api.ErrRange, 0, 99, func(x *input) *int { return &x.stock[i].Place }),
				beyond(api.ErrRange, 0, 3, func(x *input) *int { return &x.stock[i].State }),
				beyond(api.ErrRange, 0, 1000000, func(x *input) *int { return &x.stock[i].Count }),
			),
		)
	}
	return list
}

// manyEntries is a stock with so many entries, of different parts.
func manyEntries(n int) []api.Stock {
	out := []api.Stock{}
	for i := range n {
		out = append(out, entry("p"+strconv.Itoa(i), i%100, good, 1))
	}
	return out
}

// movementFaults is the errors of CheckMovement, in their order.
func movementFaults() [][]fault {
	return [][]fault{
		misnamed(func(x *input) *string { return &x.move.Part }),
		slices.Concat(
			beyond(api.ErrRange, -1, 99, func(x *input) *int { return &x.move.From }),
			beyond(api.ErrRange, -1, 99, func(x *input) *int { return &x.move.To }),
			beyond(api.ErrRange, 0, 3, func(x *input) *int { return &x.move.Before }),
			beyond(api.ErrRange, 0, 3, func(x *input) *int { return &x.move.After }),
			beyond(api.ErrRange, 1, 1000000, func(x *input) *int { return &x.move.Count }),
		),
		{
			{api.ErrState, func(x *input) { x.move.To = 0 }},
			{api.ErrState, func(x *input) { x.move.From = -1 }},
			{api.ErrState, func(x *input) { x.move.After = damaged }},
		},
	}
}

// wantFaults is the errors of a list of wants, of at least so many parts each.
func wantFaults(least int, spot func(x *input) *[]api.Want) [][]fault {
	list := [][]fault{}
	for i := range 2 {
		list = append(list,
			misnamed(func(x *input) *string { return &(*spot(x))[i].Part }),
			beyond(api.ErrRange, least, 1000000, func(x *input) *int { return &(*spot(x))[i].Count }),
		)
	}
	return list
}

// trafficFaults is the errors of CheckTraffic, in their order.
func trafficFaults() [][]fault {
	list := [][]fault{
		slices.Concat(
			beyond(api.ErrRange, 1, 8, func(x *input) *int { return &x.traffic.Places }),
			beyond(api.ErrRange, 1, 20, func(x *input) *int { return &x.traffic.Days }),
		),
		{
			{api.ErrLarge, func(x *input) { x.traffic.Routes = append(x.traffic.Routes, make([]api.Route, 29)...) }},
			{api.ErrLarge, func(x *input) { x.traffic.Supplies = append(x.traffic.Supplies, make([]api.Supply, 39)...) }},
			{api.ErrLarge, func(x *input) { x.traffic.Needs = append(x.traffic.Needs, make([]api.Supply, 39)...) }},
		},
	}
	for i := range 2 {
		list = append(list,
			slices.Concat(
				beyond(api.ErrMissing, 0, 2, func(x *input) *int { return &x.traffic.Routes[i].From }),
				beyond(api.ErrMissing, 0, 2, func(x *input) *int { return &x.traffic.Routes[i].To }),
			),
			one(api.ErrForm, func(x *input) { x.traffic.Routes[i].To = x.traffic.Routes[i].From }),
			slices.Concat(
				beyond(api.ErrRange, 1, 20, func(x *input) *int { return &x.traffic.Routes[i].Days }),
				beyond(api.ErrRange, 0, 1000000, func(x *input) *int { return &x.traffic.Routes[i].Most }),
			),
		)
	}
	for _, l := range []func(x *input) []api.Supply{
		func(x *input) []api.Supply { return x.traffic.Supplies },
		func(x *input) []api.Supply { return x.traffic.Needs },
	} {
		for i := range 2 {
			list = append(list,
				beyond(api.ErrMissing, 0, 2, func(x *input) *int { return &l(x)[i].Place }),
				slices.Concat(
					beyond(api.ErrRange, 0, 3, func(x *input) *int { return &l(x)[i].Day }),
					beyond(api.ErrRange, 0, 1000000, func(x *input) *int { return &l(x)[i].Count }),
				),
			)
		}
	}
	return list
}
