package layout_test

import (
	"testing"

	"putlog/api"
	"putlog/layout"
)

// many is the numbers from 1 to n.
func many(n int) []int {
	out := make([]int, n)
	for i := range out {
		out[i] = i + 1
	}
	return out
}

// P3.1: systems, with the ends of all ranges, and each error before those behind it.
func TestCheckSystem(t *testing.T) {
	for _, c := range []struct {
		what         string
		bays, boards []int
		width, gap   int
		lift         int
		want         api.Errno
	}{
		{"the least", []int{1}, nil, 1, 0, 1, api.OK},
		{"the greatest", []int{10000}, []int{10000}, 5000, 5000, 10000, api.OK},
		{"eight of both", many(8), many(8), 1, 0, 1, api.OK},
		{"a bay as long as a board", []int{5, 9}, []int{5}, 1, 0, 1, api.OK},
		{"no bays", nil, []int{5}, 1, 0, 1, api.ErrShape},
		{"nine bays", many(9), nil, 1, 0, 1, api.ErrShape},
		{"nine boards", []int{1}, many(9), 1, 0, 1, api.ErrShape},
		{"nine wrong boards", []int{0}, make([]int, 9), 0, -1, 0, api.ErrShape},
		{"a bay of 0", []int{0, 1}, nil, 1, 0, 1, api.ErrRange},
		{"a bay below 0", []int{-1}, nil, 1, 0, 1, api.ErrRange},
		{"a long bay", []int{10001}, nil, 1, 0, 1, api.ErrRange},
		{"a board of 0", []int{1}, []int{0}, 1, 0, 1, api.ErrRange},
		{"a long board", []int{1}, []int{5, 10001}, 1, 0, 1, api.ErrRange},
		{"range before order", []int{2, 1, 0}, nil, 1, 0, 1, api.ErrRange},
		{"range of boards before order of bays", []int{2, 1}, []int{0}, 1, 0, 1, api.ErrRange},
		{"bays that fall", []int{2, 1}, nil, 1, 0, 1, api.ErrOrder},
		{"equal bays", []int{2, 2}, nil, 1, 0, 1, api.ErrOrder},
		{"boards that fall", []int{1}, []int{1, 3, 2}, 1, 0, 1, api.ErrOrder},
		{"equal boards", []int{1}, []int{3, 3}, 1, 0, 1, api.ErrOrder},
		{"order before range of others", []int{2, 1}, nil, 0, -1, 0, api.ErrOrder},
		{"no width", []int{1}, nil, 0, 0, 1, api.ErrRange},
		{"a great width", []int{1}, nil, 5001, 0, 1, api.ErrRange},
		{"a gap below 0", []int{1}, nil, 1, -1, 1, api.ErrRange},
		{"a great gap", []int{1}, nil, 1, 5001, 1, api.ErrRange},
		{"no lift", []int{1}, nil, 1, 0, 0, api.ErrRange},
		{"a great lift", []int{1}, nil, 1, 0, 10001, api.ErrRange},
	} {
		s := api.System{Bays: c.bays, Boards: c.boards, Width: c.width, Gap: c.gap, Lift: c.lift}
		wantError(t, c.what, layout.CheckSystem(s), c.want)
		if n, e := layout.Unit(s); c.want != api.OK {
			want(t, c.what, n, e, 0, c.want)
		}
	}
}

// P3.1: the unit divides all lengths, and no greater number does.
func TestUnit(t *testing.T) {
	n, e := layout.Unit(theSystem())
	want(t, "the example", n, e, 500, api.OK)
	n, e = layout.Unit(bays(10000))
	want(t, "one bay", n, e, 10000, api.OK)
	d := dice()
	for range 300 {
		s := someSystem(d, 1+d.Intn(30))
		all := append(append([]int{}, s.Bays...), s.Boards...)
		unit := 0
		for u := 1; u <= 210; u++ {
			divides := true
			for _, n := range all {
				divides = divides && n%u == 0
			}
			if divides {
				unit = u
			}
		}
		n, e := layout.Unit(s)
		want(t, "Unit", n, e, unit, api.OK)
	}
}
