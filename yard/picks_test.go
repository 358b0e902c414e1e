package yard_test

import (
	"fmt"
	"math/rand"
	"slices"
	"strconv"
	"testing"

	"putlog/api"
	"putlog/yard"
)

// picked is what picking an order takes and what is lacking, piece by piece: each piece is of the part itself
// if there is one, or made by the first swap for which there are enough parts. As what is taken does not come
// back, a swap that was left is never made again.
func picked(l []api.Stock, o api.Order) ([]api.Movement, []api.Want) {
	left := normalOf(l)
	take := func(part string, count int) bool {
		for i, x := range left {
			if x.Part == part && x.Place == 0 && x.State == good && x.Count >= count {
				left[i].Count -= count
				return true
			}
		}
		return false
	}
	moves, lacking := []api.Movement{}, []api.Want{}
	for _, w := range o.Wants {
		taken := make([]int, len(o.Swaps)+1)
		missing := 0
		for range w.Count {
			if take(w.Part, 1) {
				taken[0]++
				continue
			}
			i := slices.IndexFunc(o.Swaps, func(x api.Swap) bool { return x.Part == w.Part && take(x.By, x.Count) })
			if i < 0 {
				missing++
			} else {
				taken[i+1] += o.Swaps[i].Count
			}
		}
		for i, n := range taken {
			if n > 0 && i == 0 {
				moves = append(moves, way(w.Part, 0, o.Place, n))
			} else if n > 0 {
				moves = append(moves, way(o.Swaps[i-1].By, 0, o.Place, n))
			}
		}
		if missing > 0 {
			lacking = append(lacking, api.Want{Part: w.Part, Count: missing})
		}
	}
	return moves, lacking
}

// someOrder is an order of few parts with swaps among them.
func someOrder(d *rand.Rand) api.Order {
	o := api.Order{Place: 1 + d.Intn(99)}
	for range d.Intn(5) {
		o.Wants = append(o.Wants, api.Want{Part: partNames()[d.Intn(5)], Count: 1 + d.Intn(25)})
	}
	for range d.Intn(8) {
		x := api.Swap{Part: partNames()[d.Intn(5)], By: partNames()[d.Intn(5)], Count: 1 + d.Intn(4)}
		if x.Part != x.By {
			o.Swaps = append(o.Swaps, x)
		}
	}
	return o
}

// yardStock is a stock, most of which is good and in the yard.
func yardStock(d *rand.Rand) []api.Stock {
	l := someStock(d, 6)
	for range d.Intn(10) {
		l = append(l, entry(partNames()[d.Intn(5)], 0, good, d.Intn(20)))
	}
	return l
}

// P8.3: orders that are picked; the first one is the chapter's example.
func TestPick(t *testing.T) {
	l := theStock()
	for _, x := range []struct {
		wants   []api.Want
		swaps   []api.Swap
		moves   []api.Movement
		lacking []api.Want
	}{
		{wants("tube", 20), swaps("tube", "half", 2), []api.Movement{way("tube", 0, 1, 15), way("half", 0, 1, 6)}, wants("tube", 2)},
		{nil, nil, nil, nil},
		{nil, swaps("tube", "half", 2), nil, nil},
		{wants("tube", 15), nil, []api.Movement{way("tube", 0, 1, 15)}, nil},
		{wants("tube", 14), swaps("tube", "half", 1), []api.Movement{way("tube", 0, 1, 14)}, nil},
		{wants("tube", 16), nil, []api.Movement{way("tube", 0, 1, 15)}, wants("tube", 1)},
		{wants("tube", 1000000), nil, []api.Movement{way("tube", 0, 1, 15)}, wants("tube", 999985)},
		// a want that is there twice takes what is left
		{wants("tube", 9, "tube", 9), nil, []api.Movement{way("tube", 0, 1, 9), way("tube", 0, 1, 6)}, wants("tube", 3)},
		{wants("tube", 15, "tube", 9, "tube", 1), nil, []api.Movement{way("tube", 0, 1, 15)}, wants("tube", 9, "tube", 1)},
		// what a swap takes is not there for a later want; what an earlier want took is not there for a swap
		{wants("tube", 17, "half", 7), swaps("tube", "half", 2), []api.Movement{way("tube", 0, 1, 15), way("half", 0, 1, 4), way("half", 0, 1, 3)}, wants("half", 4)},
		{wants("half", 4, "tube", 17), swaps("tube", "half", 2), []api.Movement{way("half", 0, 1, 4), way("tube", 0, 1, 15), way("half", 0, 1, 2)}, wants("tube", 1)},
		// swaps in their order, each as far as it goes
		{wants("clip", 9), swaps("clip", "half", 3, "clip", "tube", 4), []api.Movement{way("half", 0, 1, 6), way("tube", 0, 1, 12)}, wants("clip", 4)},
		{wants("clip", 3), swaps("clip", "tube", 4, "clip", "half", 3), []api.Movement{way("tube", 0, 1, 12)}, nil},
		{wants("clip", 9), swaps("clip", "half", 5, "clip", "half", 2, "clip", "half", 1), []api.Movement{way("half", 0, 1, 5), way("half", 0, 1, 2)}, wants("clip", 7)},
		// a swap is for its part only, and not made through another one
		{wants("clip", 2), swaps("half", "tube", 1, "clip", "pin", 1, "pin", "tube", 1), nil, wants("clip", 2)},
		{wants("clip", 2), swaps("tube", "clip", 1), nil, wants("clip", 2)},
		// swaps that need more than there is, and just what there is
		{wants("clip", 2), swaps("clip", "half", 8), nil, wants("clip", 2)},
		{wants("clip", 2), swaps("clip", "half", 7), []api.Movement{way("half", 0, 1, 7)}, wants("clip", 1)},
	} {
		moves, lacking, e := yard.Pick(l, api.Order{Place: 1, Wants: x.wants, Swaps: x.swaps})
		want(t, "Pick", []any{moves, lacking}, e, []any{x.moves, x.lacking}, api.OK)
	}
}

// P8.3: only good parts that are in the yard are picked.
func TestPickFromTheYard(t *testing.T) {
	l := []api.Stock{entry("tube", 0, damaged, 9), entry("tube", 0, inRepair, 9), entry("tube", 0, quarantine, 9), entry("tube", 1, good, 9), entry("tube", 99, good, 9)}
	o := api.Order{Place: 99, Wants: wants("tube", 5, "clip", 5), Swaps: swaps("clip", "tube", 1)}
	moves, lacking, e := yard.Pick(l, o)
	want(t, "Pick of what is not there", []any{moves, lacking}, e, []any{[]api.Movement{}, o.Wants}, api.OK)
	l = append(l, entry("tube", 0, good, 3), entry("tube", 0, good, 0), entry("tube", 0, good, 4))
	moves, lacking, e = yard.Pick(l, o)
	right := []api.Movement{way("tube", 0, 99, 5), way("tube", 0, 99, 2)}
	want(t, "Pick of several entries", []any{moves, lacking}, e, []any{right, wants("clip", 3)}, api.OK)
}

// P8.3: large numbers.
func TestPickMuch(t *testing.T) {
	l := []api.Stock{entry("a", 0, 0, 1000000), entry("b", 0, 0, 999999)}
	o := api.Order{Place: 1, Wants: wants("a", 1000000, "c", 1000000), Swaps: swaps("c", "b", 100)}
	moves, lacking, e := yard.Pick(l, o)
	want(t, "Pick", []any{moves, lacking}, e, []any{[]api.Movement{way("a", 0, 1, 1000000), way("b", 0, 1, 999900)}, wants("c", 990001)}, api.OK)
}

// P8.3: orders compared with picking piece by piece.
func TestPickByPieces(t *testing.T) {
	d := dice()
	swaps, lacks := 0, 0
	for range 4000 {
		l, o := yardStock(d), someOrder(d)
		moves, lacking, e := yard.Pick(l, o)
		rightMoves, rightLacking := picked(l, o)
		want(t, fmt.Sprint("Pick of ", o, " from ", normalOf(l)), []any{moves, lacking}, e, []any{rightMoves, rightLacking}, api.OK)
		if len(moves) > len(o.Wants) {
			swaps++
		}
		if len(lacking) > 1 {
			lacks++
		}
	}
	if swaps < 100 || lacks < 500 {
		t.Errorf("%d orders take swaps, %d lack parts", swaps, lacks)
	}
}

// P8.3: the errors of Pick.
func TestPickErrors(t *testing.T) {
	call := func(x input) api.Errno {
		moves, lacking, e := yard.Pick(x.stock, x.order)
		if e != api.OK {
			want(t, "Pick", []any{moves, lacking}, e, []any{[]api.Movement{}, []api.Want{}}, e)
		}
		return e
	}
	list := slices.Concat(stockFaults(), [][]fault{
		beyond(api.ErrRange, 1, 99, func(x *input) *int { return &x.order.Place }),
		{
			{api.ErrShape, func(x *input) { x.order.Wants = append(x.order.Wants, make([]api.Want, 59)...) }},
			{api.ErrShape, func(x *input) { x.order.Swaps = append(x.order.Swaps, make([]api.Swap, 59)...) }},
		},
	}, wantFaults(1, func(x *input) *[]api.Want { return &x.order.Wants }))
	for i := range 2 {
		list = append(list,
			slices.Concat(
				misnamed(func(x *input) *string { return &x.order.Swaps[i].Part }),
				misnamed(func(x *input) *string { return &x.order.Swaps[i].By }),
				one(api.ErrName, func(x *input) { x.order.Swaps[i].Part, x.order.Swaps[i].By = "", "" }),
			),
			one(api.ErrForm, func(x *input) { x.order.Swaps[i].By = x.order.Swaps[i].Part }),
			beyond(api.ErrRange, 1, 100, func(x *input) *int { return &x.order.Swaps[i].Count }),
		)
	}
	inOrder(t, "Pick", call, list...)
	within(t, "Pick", 1, 99, func(x *input) *int { return &x.order.Place }, call)
	for i := range 2 {
		within(t, "Pick", 1, 1000000, func(x *input) *int { return &x.order.Wants[i].Count }, call)
		within(t, "Pick", 1, 100, func(x *input) *int { return &x.order.Swaps[i].Count }, call)
	}
	x := fine()
	x.order.Wants, x.order.Swaps = nil, nil
	for i := range 60 {
		x.order.Wants = append(x.order.Wants, api.Want{Part: "w" + strconv.Itoa(i), Count: 1})
		x.order.Swaps = append(x.order.Swaps, api.Swap{Part: "w" + strconv.Itoa(i), By: "half", Count: 1})
	}
	moves, lacking, e := yard.Pick(x.stock, x.order)
	if len(moves) != 7 || len(lacking) != 53 || e != api.OK {
		t.Errorf("Pick of 60 wants: %v, %v, error %d", moves, lacking, e)
	}
}
