package yard_test

import (
	"math/rand"
	"slices"
	"testing"

	"putlog/api"
	"putlog/yard"
)

// countOf is the count of a part at a place in a state.
func countOf(l []api.Stock, part string, place, state int) int {
	n := 0
	for _, x := range l {
		if x.Part == part && x.Place == place && x.State == state {
			n += x.Count
		}
	}
	return n
}

// normalOf is the normal form of a stock, gone through by parts, places and states.
func normalOf(l []api.Stock) []api.Stock {
	names := []string{}
	for _, x := range l {
		names = append(names, x.Part)
	}
	slices.Sort(names)
	out := []api.Stock{}
	for _, part := range slices.Compact(names) {
		for place := range 100 {
			for state := range 4 {
				if n := countOf(l, part, place, state); n > 0 {
					out = append(out, entry(part, place, state, n))
				}
			}
		}
	}
	return out
}

// partNames is names in no order, among them such as begin with another one.
func partNames() []string { return []string{"b", "a", "ab", "a-", "B", "a0", "Ab", "aB"} }

// someStock is a stock with at most so many entries, of few parts at few places.
func someStock(d *rand.Rand, most int) []api.Stock {
	l := []api.Stock{}
	kinds, places := 1+d.Intn(8), 1+d.Intn(4)
	for range d.Intn(most + 1) {
		place := []int{0, 1, 99, 10}[d.Intn(places)]
		l = append(l, entry(partNames()[d.Intn(kinds)], place, d.Intn(4), d.Intn(4)*d.Intn(6)))
	}
	return l
}

// P8.1: which lists are stocks.
func TestCheck(t *testing.T) {
	check := func(x input) api.Errno { return yard.Check(x.stock) }
	inOrder(t, "Check", check, stockFaults()...)
	for i := range 2 {
		within(t, "Check", 0, 99, func(x *input) *int { return &x.stock[i].Place }, check)
		within(t, "Check", 0, 3, func(x *input) *int { return &x.stock[i].State }, check)
		within(t, "Check", 0, 1000000, func(x *input) *int { return &x.stock[i].Count }, check)
	}
	for _, l := range [][]api.Stock{nil, {}, manyEntries(200), {entry("abcdefghijkl", 0, 0, 0)}, {entry("Z9-", 0, 0, 0)}, {entry("a", 0, 0, 1), entry("a", 0, 0, 1)}} {
		wantError(t, "Check", yard.Check(l), api.OK)
	}
	wantError(t, "Check of 201 entries", yard.Check(manyEntries(201)), api.ErrLarge)
}

// P8.1: normal forms; the first one is the chapter's example.
func TestNormal(t *testing.T) {
	for _, x := range []struct{ l, right []api.Stock }{
		{[]api.Stock{entry("tube", 0, 0, 10), entry("tube", 0, 0, 5), entry("clip", 1, 0, 0)}, []api.Stock{entry("tube", 0, 0, 15)}},
		{nil, nil},
		{[]api.Stock{entry("a", 0, 0, 0), entry("a", 0, 0, 0)}, nil},
		{
			[]api.Stock{entry("b", 0, 0, 1), entry("a", 10, 0, 1), entry("a", 2, 3, 1), entry("a", 2, 1, 1), entry("Z", 99, 3, 1), entry("ab", 0, 0, 1), entry("a-", 0, 0, 1)},
			[]api.Stock{entry("Z", 99, 3, 1), entry("a", 2, 1, 1), entry("a", 2, 3, 1), entry("a", 10, 0, 1), entry("a-", 0, 0, 1), entry("ab", 0, 0, 1), entry("b", 0, 0, 1)},
		},
		{[]api.Stock{entry("a", 0, 0, 999999), entry("b", 0, 0, 1), entry("a", 0, 0, 1)}, []api.Stock{entry("a", 0, 0, 1000000), entry("b", 0, 0, 1)}},
		{[]api.Stock{entry("a", 0, 0, 1000000), entry("a", 0, 1, 1000000), entry("a", 1, 0, 1000000)}, []api.Stock{entry("a", 0, 0, 1000000), entry("a", 0, 1, 1000000), entry("a", 1, 0, 1000000)}},
	} {
		got, e := yard.Normal(x.l)
		want(t, "Normal", got, e, x.right, api.OK)
	}
	d := dice()
	for range 2000 {
		l := someStock(d, 30)
		got, e := yard.Normal(l)
		want(t, "Normal", got, e, normalOf(l), api.OK)
		again, e := yard.Normal(got)
		want(t, "Normal of Normal", again, e, got, api.OK)
	}
	l := manyEntries(200)
	got, e := yard.Normal(l)
	want(t, "Normal of 200 entries", got, e, normalOf(l), api.OK)
}

// P8.1: a normal form has no greater counts than a stock.
func TestNormalErrors(t *testing.T) {
	inOrder(t, "Normal", func(x input) api.Errno {
		l, e := yard.Normal(x.stock)
		if e != api.OK {
			want(t, "Normal", l, e, []api.Stock{}, e)
		}
		return e
	}, append(stockFaults(), []fault{
		{api.ErrLarge, func(x *input) { x.stock = append(x.stock, entry("tube", 0, good, 999986)) }},
		{api.ErrLarge, func(x *input) {
			x.stock = append(x.stock, entry("x", 9, 3, 500000), entry("a", 9, 3, 1000000), entry("x", 9, 3, 500001))
		}},
	})...)
}

// P8.1: counts and totals.
func TestCounts(t *testing.T) {
	l := theStock()
	l = append(l, entry("tube", 0, good, 4), entry("tube", 0, damaged, 2))
	for _, x := range []struct {
		part         string
		place, state int
		right        int
	}{
		{"tube", 0, good, 19}, {"tube", 0, damaged, 2}, {"tube", 2, damaged, 3}, {"half", 0, good, 7},
		{"tube", 2, good, 0}, {"tube", 1, damaged, 0}, {"tub", 0, good, 0}, {"tubes", 0, good, 0}, {"Tube", 0, good, 0}, {"", 0, good, 0},
		{"a b\n", 0, good, 0}, {"\xff", 0, good, 0}, {"tube", -1, good, 0}, {"tube", 100, good, 0}, {"tube", 0, -1, 0}, {"tube", 0, 4, 0},
		{"tube", 1 << 62, 1 << 62, 0}, {"tube", -1 << 63, 1<<63 - 1, 0}, {"half", 0, 7, 0}, {"half", 7, 0, 0},
	} {
		n, e := yard.Count(l, x.part, [2]int{x.place, x.state})
		want(t, "Count of "+x.part, n, e, x.right, api.OK)
	}
	for part, right := range map[string]int{"tube": 24, "half": 7, "tub": 0, "": 0, "TUBE": 0, " \n": 0, "abcdefghijklmn": 0} {
		n, e := yard.Total(l, part)
		want(t, "Total of "+part, n, e, right, api.OK)
	}
	n, e := yard.Count(nil, "a", [2]int{})
	want(t, "Count of nothing", n, e, 0, api.OK)
	n, e = yard.Total(nil, "a")
	want(t, "Total of nothing", n, e, 0, api.OK)
	for _, f := range []func(x input) (int, api.Errno){
		func(x input) (int, api.Errno) { return yard.Count(x.stock, x.part, x.at) },
		func(x input) (int, api.Errno) { return yard.Total(x.stock, x.part) },
	} {
		inOrder(t, "Count or Total", func(x input) api.Errno {
			n, e := f(x)
			if e != api.OK {
				want(t, "Count or Total", n, e, 0, e)
			}
			return e
		}, stockFaults()...)
	}
}

// P8.1: counts of many entries, also more than an entry can have.
func TestCountsOfMany(t *testing.T) {
	d := dice()
	for range 500 {
		l := someStock(d, 40)
		for _, part := range partNames() {
			total := 0
			for _, place := range []int{0, 1, 99, 10} {
				for state := range 4 {
					right := countOf(l, part, place, state)
					total += right
					n, e := yard.Count(l, part, [2]int{place, state})
					want(t, "Count", n, e, right, api.OK)
				}
			}
			n, e := yard.Total(l, part)
			want(t, "Total", n, e, total, api.OK)
		}
	}
	l := slices.Repeat([]api.Stock{entry("a", 0, 0, 1000000)}, 200)
	n, e := yard.Count(l, "a", [2]int{})
	want(t, "Count of 200 full entries", n, e, 200000000, api.OK)
	n, e = yard.Total(l, "a")
	want(t, "Total of 200 full entries", n, e, 200000000, api.OK)
}
