package layout_test

import (
	"math"
	"slices"
	"testing"

	"putlog/api"
	"putlog/layout"
)

// P3.2: Less.
func TestLess(t *testing.T) {
	l := []api.Cost{{Odd: math.MinInt, Bays: 0}, {Odd: -1, Bays: 7}, {Odd: 0, Bays: 2}, {Odd: 0, Bays: 3}, {Odd: 1, Bays: 1}, {Odd: 1, Bays: 20000}, {Odd: 2, Bays: 0}, {Odd: 2, Bays: math.MaxInt}, {Odd: math.MaxInt, Bays: 0}}
	for i, a := range l {
		for j, b := range l {
			if layout.Less(a, b) != (i < j) {
				t.Errorf("Less(%v, %v) is %v", a, b, i >= j)
			}
		}
	}
}

// copies is a list of n equal numbers.
func copies(n, of int) []int { return slices.Repeat([]int{of}, n) }

// P3.2: the errors of closings, each before those behind it.
func TestClosingErrors(t *testing.T) {
	s := theSystem()
	for _, c := range []struct {
		what string
		c    api.Closing
		want api.Errno
	}{
		{"an empty one", api.Closing{}, api.OK},
		{"equal parts", api.Closing{Bays: []int{2500, 2500, 1000, 1000}, Boards: []int{500, 500}}, api.OK},
		{"the most", api.Closing{Bays: copies(4000, 2500), Boards: copies(4000, 500)}, api.OK},
		{"too many bays", api.Closing{Bays: copies(4001, 2500)}, api.ErrLarge},
		{"too many boards", api.Closing{Boards: copies(4001, 500)}, api.ErrLarge},
		{"too many unknown boards", api.Closing{Bays: []int{7}, Boards: copies(4001, 7)}, api.ErrLarge},
		{"an unknown bay", api.Closing{Bays: []int{2500, 2000}}, api.ErrMissing},
		{"a board as a bay", api.Closing{Bays: []int{500}}, api.ErrMissing},
		{"a bay as a board", api.Closing{Boards: []int{1000}}, api.ErrMissing},
		{"an unknown board behind bays that ascend", api.Closing{Bays: []int{1000, 2500}, Boards: []int{0}}, api.ErrMissing},
		{"bays that ascend", api.Closing{Bays: []int{2500, 1000, 2500}}, api.ErrOrder},
	} {
		n, e := layout.Length(s, c.c)
		cost, f := layout.CostOf(s, c.c)
		length := sum(c.c.Bays) + sum(c.c.Boards)
		if c.want == api.OK {
			want(t, c.what+": Length", n, e, length, api.OK)
			want(t, c.what+": CostOf", cost, f, costOf(s, c.c), api.OK)
			wantError(t, c.what+", shorter", layout.CheckClosing(s, length-1, c.c), api.ErrProof)
			wantError(t, c.what+", longer", layout.CheckClosing(s, length+1, c.c), api.ErrProof)
		} else {
			want(t, c.what+": Length", n, e, 0, c.want)
			want(t, c.what+": CostOf", cost, f, api.Cost{}, c.want)
		}
		wantError(t, c.what+": CheckClosing", layout.CheckClosing(s, length, c.c), c.want)
	}
	s.Boards = []int{250, 500}
	wantError(t, "boards that ascend", layout.CheckClosing(s, 750, api.Closing{Boards: []int{250, 500}}), api.ErrOrder)
	wantError(t, "boards that descend", layout.CheckClosing(s, 750, api.Closing{Boards: []int{500, 250}}), api.OK)
	wantError(t, "a length below 0", layout.CheckClosing(s, -1, api.Closing{}), api.ErrProof)
}

// P3.2: costs: boards are odd, and all bays but the longest one.
func TestCostOf(t *testing.T) {
	for _, c := range []struct {
		bays, boards []int
		want         api.Cost
	}{
		{[]int{2500, 2500}, nil, api.Cost{Odd: 0, Bays: 2}},
		{[]int{2500, 1000}, []int{500}, api.Cost{Odd: 2, Bays: 2}},
		{copies(4, 1000), nil, api.Cost{Odd: 4, Bays: 4}},
		{[]int{2500}, copies(3, 500), api.Cost{Odd: 3, Bays: 1}},
	} {
		cost, e := layout.CostOf(theSystem(), api.Closing{Bays: c.bays, Boards: c.boards})
		want(t, "CostOf", cost, e, c.want, api.OK)
	}
	// A board that is as long as the regular bay is odd.
	cost, e := layout.CostOf(api.System{Bays: []int{5}, Boards: []int{5}, Width: 1, Lift: 1}, api.Closing{Bays: []int{5}, Boards: []int{5}})
	want(t, "a long board", cost, e, api.Cost{Odd: 1, Bays: 1}, api.OK)
}

// P3.3: Close, with the chapter's examples and refused lengths.
func TestCloseExamples(t *testing.T) {
	s := theSystem()
	for _, c := range []struct {
		length       int
		bays, boards []int
	}{
		{0, nil, nil},
		{500, nil, []int{500}},
		{5000, []int{2500, 2500}, nil},
		{4000, []int{2500, 1000}, []int{500}},
		{3000, []int{2500}, []int{500}},
		{2000000, copies(800, 2500), nil},
	} {
		got, e := layout.Close(s, c.length)
		want(t, "Close", got, e, api.Closing{Bays: c.bays, Boards: c.boards}, api.OK)
	}
	for length, f := range map[int]api.Errno{
		-1: api.ErrRange, math.MinInt: api.ErrRange, 2000001: api.ErrLarge, math.MaxInt: api.ErrLarge,
		499: api.ErrGap, 1001: api.ErrGap,
	} {
		got, e := layout.Close(s, length)
		want(t, "Close", got, e, api.Closing{}, f)
	}
	got, e := layout.Close(bays(1000, 2500), 1500)
	want(t, "a gap", got, e, api.Closing{}, api.ErrGap)
	got, e = layout.Close(api.System{}, -1)
	want(t, "no system", got, e, api.Closing{}, api.ErrShape)
	got, e = layout.Close(bays(1), 4000)
	want(t, "the most parts", got, e, api.Closing{Bays: copies(4000, 1)}, api.OK)
}

// P3.3: of all closings of a length, none costs less.
func TestCloseLeast(t *testing.T) {
	d := dice()
	for range 200 {
		unit := 1 + d.Intn(5)
		s := someSystem(d, unit)
		length := d.Intn(20*unit + 1)
		least := leastCode(s, length)
		got, e := layout.Close(s, length)
		if least < 0 {
			want(t, "Close", got, e, api.Closing{}, api.ErrGap)
			continue
		}
		wantError(t, "Close", e, api.OK)
		wantError(t, "CheckClosing of Close", layout.CheckClosing(s, length, got), api.OK)
		cost, e := layout.CostOf(s, got)
		want(t, "the code of Close", codeOf(cost), e, least, api.OK)
	}
}
