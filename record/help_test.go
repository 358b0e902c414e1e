package record_test

import (
	"fmt"
	"math/rand"
	"slices"
	"strconv"
	"testing"

	"putlog/api"
)

// The tests call the exported functions only. They compare with the chapter's definitions, written down
// once more: event against event, day by day, piece by piece.

// dice is a repeatable row of chances.
func dice() *rand.Rand { return rand.New(rand.NewSource(9)) }

// same compares two values by their texts, in which a nil slice is as an empty one, and so is nil itself.
func same(a, b any) bool { return text(a) == text(b) }

func text(x any) string {
	if x == nil {
		return "[]"
	}
	return fmt.Sprint(x)
}

// want compares what a call returns with what it should.
func want(t *testing.T, what string, got any, e api.Errno, right any, f api.Errno) {
	t.Helper()
	if !same(got, right) || e != f {
		t.Errorf("%s: %v, error %d; want %v, error %d", what, got, e, right, f)
	}
}

// wantError compares an error.
func wantError(t *testing.T, what string, e, right api.Errno) {
	t.Helper()
	if e != right {
		t.Errorf("%s: error %d, want %d", what, e, right)
	}
}

// Events of the kinds.
func design(day int, platform string, number int) api.Event {
	return api.Event{Day: day, Kind: 0, Platform: platform, Number: number}
}

func handover(day int, platform string, passed bool) api.Event {
	return api.Event{Day: day, Kind: 1, Platform: platform, Passed: passed}
}

func weekly(day int, platform string, passed bool) api.Event {
	return api.Event{Day: day, Kind: 2, Platform: platform, Passed: passed}
}

func storm(day int) api.Event { return api.Event{Day: day, Kind: 3} }

func grave(day int, platform string, number int) api.Event {
	return api.Event{Day: day, Kind: 4, Platform: platform, Number: number, Grave: true}
}

func light(day int, platform string, number int) api.Event {
	return api.Event{Day: day, Kind: 4, Platform: platform, Number: number}
}

func repaired(day int, platform string, number int) api.Event {
	return api.Event{Day: day, Kind: 5, Platform: platform, Number: number}
}

func alteration(day int, platform string) api.Event {
	return api.Event{Day: day, Kind: 6, Platform: platform}
}

// storms is so many storms on a day.
func storms(n, day int) []api.Event { return slices.Repeat([]api.Event{storm(day)}, n) }

// Moves of the kinds.
func delivered(day int, part string, count int) api.Move {
	return api.Move{Day: day, Kind: 0, Part: part, Count: count}
}

func returned(day int, part string, count int) api.Move {
	return api.Move{Day: day, Kind: 1, Part: part, Count: count}
}

func lost(day int, part string, count int) api.Move {
	return api.Move{Day: day, Kind: 2, Part: part, Count: count}
}

// term is the terms of a part.
func term(part string, week, least, price int) api.Term {
	return api.Term{Part: part, Week: week, Least: least, Price: price}
}

// theTerms is the terms of the chapter's examples.
func theTerms() []api.Term { return []api.Term{term("std", 100, 2, 5000)} }

// theMoves is the moves of the chapter's examples.
func theMoves() []api.Move {
	return []api.Move{delivered(1, "std", 10), returned(20, "std", 4), lost(25, "std", 1)}
}

// platformNames is names in no order, among them such as begin with another one.
func platformNames() []string { return []string{"b", "a", "ab", "a-", "B", "a0", "Ab", "abcdefghijkl"} }

// An input is arguments for all functions of the package.
type input struct {
	events         []api.Event
	event          api.Event
	at             int
	platform       string
	day, from, to  int
	terms          []api.Term
	moves          []api.Move
	in, out, least int
	charges        []api.Charge
}

// fine is an input that no function refuses.
func fine() input {
	return input{
		events: []api.Event{
			grave(1, "a", 3), light(2, "a", 4), design(2, "a", 7), handover(3, "a", true), repaired(4, "a", 3),
			storm(5), weekly(5, "a", true), design(6, "b", 1), alteration(7, "b"),
		},
		event:    light(8, "a", 5),
		at:       8,
		platform: "a",
		day:      6, from: 2, to: 14,
		terms: []api.Term{term("std", 100, 2, 5000), term("board", 30, 0, 700)},
		moves: []api.Move{delivered(1, "std", 10), delivered(2, "board", 5), returned(9, "std", 4), lost(9, "board", 1)},
		in:    3, out: 10, least: 1,
		charges: []api.Charge{{Part: "std", Count: 1, Weeks: 2, Amount: 30}, {Amount: 12}},
	}
}

// A fault is a change of an input, and the error that it makes.
type fault struct {
	is     api.Errno
	change func(x *input)
}

// inOrder checks that a function accepts the fine input, refuses each fault, and of two faults tells the
// one that is listed first. Faults that are the same part of the list are one element of it. Beside an
// error there is no other result.
func inOrder(t *testing.T, name string, list ...[]fault) {
	t.Helper()
	wantError(t, name+" of the fine input", errorOf(t, name, fine()), api.OK)
	for i, faults := range list {
		for a, f := range faults {
			x := fine()
			f.change(&x)
			wantError(t, fmt.Sprintf("%s with fault %d.%d", name, i, a), errorOf(t, name, x), f.is)
			for j := i + 1; j < len(list); j++ {
				for b, later := range list[j] {
					x := fine()
					later.change(&x)
					f.change(&x)
					wantError(t, fmt.Sprintf("%s with faults %d.%d and %d.%d", name, i, a, j, b), errorOf(t, name, x), f.is)
				}
			}
		}
	}
}

// one is one fault.
func one(is api.Errno, change func(x *input)) []fault { return []fault{{is, change}} }

// misnamed is faults for a name at a spot of the input.
func misnamed(spot func(x *input) *string) []fault {
	out := []fault{}
	for _, s := range []string{"", "9", "-a", "a b", "abcdefghijklm", "a\n", "\xff", "a.", "a_", "\u00e9"} {
		out = append(out, fault{api.ErrName, func(x *input) { *spot(x) = s }})
	}
	return out
}

// beyond is faults for a number at a spot of the input that must be from low to high.
func beyond(is api.Errno, low, high int, spot func(x *input) *int) []fault {
	out := []fault{}
	for _, n := range []int{low - 1, high + 1, -1 << 63, 1<<63 - 1} {
		out = append(out, fault{is, func(x *input) { *spot(x) = n }})
	}
	return out
}

// within checks that a function accepts the least and the greatest number at a spot of the input.
func within(t *testing.T, name string, low, high int, spot func(x *input) *int) {
	t.Helper()
	for _, n := range []int{low, high} {
		x := fine()
		*spot(&x) = n
		wantError(t, name+" with "+strconv.Itoa(n), errorOf(t, name, x), api.OK)
	}
}

// eventFaults is the errors of an event at a spot of the input, behind a day, in their order. The defect
// 4 of the platform "a" is open there, its defect 9 is not.
func eventFaults(day int, spot func(x *input) *api.Event) [][]fault {
	list := [][]fault{slices.Concat(
		beyond(api.ErrRange, 0, 20000, func(x *input) *int { return &spot(x).Day }),
		beyond(api.ErrRange, 0, 6, func(x *input) *int { return &spot(x).Kind }),
		beyond(api.ErrRange, 0, 9999, func(x *input) *int { return &spot(x).Number }),
	)}
	if day > 0 {
		list = append(list, one(api.ErrOrder, func(x *input) { spot(x).Day = day - 1 }))
	}
	return append(list,
		misnamed(func(x *input) *string { return &spot(x).Platform }),
		one(api.ErrForm, func(x *input) { spot(x).Passed = true }),
		[]fault{
			{api.ErrExists, func(x *input) { *spot(x) = light(8, "a", 4) }},
			{api.ErrMissing, func(x *input) { *spot(x) = repaired(8, "a", 9) }},
		},
	)
}

// recordFaults is the errors of CheckRecord, in their order.
func recordFaults() [][]fault {
	list := [][]fault{one(api.ErrLarge, func(x *input) { x.events = append(x.events, storms(392, 7)...) })}
	for i := range 2 {
		spot := func(x *input) *api.Event { return &x.events[i] }
		faults := eventFaults(i, spot)
		faults[len(faults)-1] = []fault{{api.ErrMissing, func(x *input) { *spot(x) = repaired(1, "a", 9) }}}
		if i == 1 {
			faults[len(faults)-1] = append(faults[len(faults)-1], fault{api.ErrExists, func(x *input) { *spot(x) = grave(1, "a", 3) }})
		}
		list = append(list, faults...)
	}
	return list
}

// dayFaults is the errors of a day.
func dayFaults(spot func(x *input) *int) []fault { return beyond(api.ErrRange, 0, 20000, spot) }

// theDay is the day of an input.
func theDay(x *input) *int { return &x.day }

// spanFaults is the errors of a first and a last day, in their order.
func spanFaults() [][]fault {
	return [][]fault{
		dayFaults(func(x *input) *int { return &x.from }),
		dayFaults(func(x *input) *int { return &x.to }),
		one(api.ErrOrder, func(x *input) { x.to = x.from - 1 }),
	}
}

// noPlatforms is faults for a platform that is not in the record.
func noPlatforms() []fault {
	out := []fault{}
	for _, s := range []string{"", "c", "A", "aa", "a ", "\xff"} {
		out = append(out, fault{api.ErrMissing, func(x *input) { x.platform = s }})
	}
	return out
}

// termFaults is the errors of CheckTerms, in their order.
func termFaults() [][]fault {
	list := [][]fault{one(api.ErrLarge, func(x *input) { x.terms = append(x.terms, manyTerms(59)...) })}
	for i := range 2 {
		list = append(list, misnamed(func(x *input) *string { return &x.terms[i].Part }))
		if i > 0 {
			list = append(list, one(api.ErrExists, func(x *input) { x.terms[i].Part = x.terms[0].Part }))
		}
		list = append(list, slices.Concat(
			beyond(api.ErrRange, 0, 1000000, func(x *input) *int { return &x.terms[i].Week }),
			beyond(api.ErrRange, 0, 520, func(x *input) *int { return &x.terms[i].Least }),
			beyond(api.ErrRange, 0, 1000000, func(x *input) *int { return &x.terms[i].Price }),
		))
	}
	return list
}

// manyTerms is terms of so many parts.
func manyTerms(n int) []api.Term {
	out := []api.Term{}
	for i := range n {
		out = append(out, term("p"+strconv.Itoa(i), i, i%4, 10*i))
	}
	return out
}

// moveFaults is the errors of CheckMoves, in their order.
func moveFaults() [][]fault {
	list := append(termFaults(), one(api.ErrLarge, func(x *input) {
		x.moves = append(x.moves, slices.Repeat([]api.Move{delivered(9, "std", 1)}, 297)...)
	}))
	for i := range 2 {
		list = append(list, slices.Concat(
			beyond(api.ErrRange, 0, 20000, func(x *input) *int { return &x.moves[i].Day }),
			beyond(api.ErrRange, 0, 2, func(x *input) *int { return &x.moves[i].Kind }),
			beyond(api.ErrRange, 1, 100000, func(x *input) *int { return &x.moves[i].Count }),
		))
		if i > 0 {
			list = append(list, one(api.ErrOrder, func(x *input) { x.moves[i].Day = 0 }))
		}
		list = append(list,
			[]fault{
				{api.ErrMissing, func(x *input) { x.moves[i].Part = "tube" }},
				{api.ErrMissing, func(x *input) { x.moves[i].Part = "" }},
			},
			[]fault{
				{api.ErrStock, func(x *input) { x.moves[i].Kind = 1 }},
				{api.ErrStock, func(x *input) { x.moves[i].Kind = 2 }},
			},
		)
	}
	return append(list, []fault{
		{api.ErrStock, func(x *input) { x.moves[2].Count = 11 }},
		{api.ErrStock, func(x *input) { x.moves[3].Count = 6 }},
	})
}
