package layout_test

import (
	"math"
	"testing"

	"putlog/api"
	"putlog/layout"
)

// P3.3: the chapter's tables, gaps and ways.
func TestTableExamples(t *testing.T) {
	s := theSystem()
	right := []int{0, 10000, 10001, 20001, 20002, 1, 10001}
	for most, n := range map[int]int{0: 1, 499: 1, 500: 2, 3000: 7, 3499: 7} {
		got, e := layout.Table(s, most)
		want(t, "Table", got, e, right[:n], api.OK)
	}
	got, e := layout.Gaps(bays(1000, 2500), 4000)
	want(t, "Gaps", got, e, []int{500, 1500}, api.OK)
	got, e = layout.Gaps(bays(1000, 2500), 1499)
	want(t, "Gaps below 1500", got, e, []int{500}, api.OK)
	got, e = layout.Gaps(s, 4000)
	want(t, "no Gaps", got, e, []int{}, api.OK)
	for length, n := range map[int]int{0: 1, 500: 1, 2000: 3, 2001: 0, 250: 0} {
		got, e := layout.Ways(s, length)
		want(t, "Ways", got, e, n, api.OK)
	}
	// A bay and a board of the same length are two parts.
	n, e := layout.Ways(api.System{Bays: []int{5}, Boards: []int{5}, Width: 1, Lift: 1}, 10)
	want(t, "Ways of a bay and a board", n, e, 3, api.OK)
}

// P3.3: the errors of lengths.
func TestTableErrors(t *testing.T) {
	s := theSystem()
	for _, c := range []struct {
		s      api.System
		length int
		want   api.Errno
	}{
		{s, -1, api.ErrRange}, {s, math.MinInt, api.ErrRange}, {s, 2000001, api.ErrLarge}, {s, 2000500, api.ErrLarge},
		{s, math.MaxInt, api.ErrLarge}, {bays(7), 28001, api.ErrLarge}, {api.System{}, -1, api.ErrShape}, {bays(2, 1), -1, api.ErrOrder},
	} {
		codes, e := layout.Table(c.s, c.length)
		want(t, "Table", codes, e, []int{}, c.want)
		gaps, e := layout.Gaps(c.s, c.length)
		want(t, "Gaps", gaps, e, []int{}, c.want)
		n, e := layout.Ways(c.s, c.length)
		want(t, "Ways", n, e, 0, c.want)
	}
	codes, e := layout.Table(s, 2000000)
	if e != api.OK || len(codes) != 4001 || codes[4000] != 800 {
		t.Errorf("the longest Table: %d codes, error %d", len(codes), e)
	}
	gaps, e := layout.Gaps(bays(3, 5), 4000)
	want(t, "all Gaps", gaps, e, []int{1, 2, 4, 7}, api.OK)
	n, e := layout.Ways(bays(7), 28000)
	want(t, "Ways of the longest", n, e, 1, api.OK)
}

// count is how many multisets of the lengths fill a room.
func count(lengths []int, room int) int {
	if len(lengths) == 1 {
		if room%lengths[0] == 0 {
			return 1
		}
		return 0
	}
	n := 0
	for ; room >= 0; room -= lengths[0] {
		n += count(lengths[1:], room)
	}
	return n
}

// P3.3: Ways tells up to 1000000 closings.
func TestWaysLarge(t *testing.T) {
	for _, c := range []struct {
		bays, boards []int
		length       int
		right        int
		e            api.Errno
	}{
		{[]int{1}, []int{1, 2}, 1996, 998001, api.OK}, // 999 times 999
		{[]int{1}, []int{1, 2}, 1998, 1000000, api.OK},
		{[]int{1}, []int{1, 2}, 1999, 0, api.ErrLarge},
		{[]int{1, 3, 7}, []int{5, 7, 9}, 224, 0, api.ErrLarge}, // 1000001
		{many(8), many(8), 4000, 0, api.ErrLarge},
	} {
		s := api.System{Bays: c.bays, Boards: c.boards, Width: 1, Lift: 1}
		got, e := layout.Ways(s, c.length)
		want(t, "Ways", got, e, c.right, c.e)
		if c.e == api.OK {
			want(t, "count", count(append(c.bays, c.boards...), c.length), api.OK, c.right, api.OK)
		}
	}
	want(t, "count", count([]int{3, 7, 5, 7, 9, 1}, 224), api.OK, 1000001, api.OK)
}

// P3.3: tables, gaps and ways of small systems, closing by closing.
func TestTableOneByOne(t *testing.T) {
	d := dice()
	for range 60 {
		unit := 1 + d.Intn(5)
		s := someSystem(d, unit)
		unit, _ = layout.Unit(s)
		most := d.Intn(15*unit + 1)
		var codes, gaps []int
		for n := 0; n <= most; n += unit {
			all := closings(s, n)
			codes = append(codes, leastCode(s, n))
			if len(all) == 0 {
				gaps = append(gaps, n)
			}
			got, e := layout.Ways(s, n)
			want(t, "Ways", got, e, len(all), api.OK)
		}
		got, e := layout.Table(s, most)
		want(t, "Table", got, e, codes, api.OK)
		got, e = layout.Gaps(s, most)
		want(t, "Gaps", got, e, gaps, api.OK)
	}
}
