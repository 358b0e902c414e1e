package parts_test

import (
	"math"
	"slices"
	"testing"

	"putlog/api"
	"putlog/parts"
)

// P4.5: Bill.
func TestBill(t *testing.T) {
	c := theCatalogue()
	for _, x := range []struct {
		parts, want []int
	}{
		{theParts(), []int{0, 4, 4, 1, 0, 0, 0, 0, 0, 0}},
		{nil, make([]int, 10)},
		{[]int{9, 0, 9, 9}, []int{1, 0, 0, 0, 0, 0, 0, 0, 0, 3}},
		{slices.Repeat([]int{2}, 5000), []int{0, 0, 5000, 0, 0, 0, 0, 0, 0, 0}},
	} {
		l, e := parts.Bill(c, x.parts)
		want(t, "Bill", l, e, x.want, api.OK)
	}
	for _, bad := range []int{-1, 10, math.MinInt, math.MaxInt} {
		l, e := parts.Bill(c, []int{0, 9, bad})
		want(t, "Bill of no part", l, e, []int(nil), api.ErrMissing)
	}
	l, e := parts.Bill(api.Catalogue{}, nil)
	want(t, "Bill of nothing", l, e, []int(nil), api.OK)
	l, e = parts.Bill(api.Catalogue{}, []int{0})
	want(t, "Bill without parts", l, e, []int(nil), api.ErrMissing)
}

// P4.5: Mass.
func TestMass(t *testing.T) {
	c := theCatalogue()
	n, e := parts.Mass(c, []int{0, 4, 4, 1, 0, 0, 0, 0, 0, 0})
	want(t, "Mass", n, e, 4*9000+4*3000+21000, api.OK)
	n, e = parts.Mass(c, []int{1, 0, 0, 0, 0, 0, 0, 0, 0, 1000000})
	want(t, "Mass", n, e, 5000+800*1000000, api.OK)
	n, e = parts.Mass(c, make([]int, 10))
	want(t, "Mass of nothing", n, e, 0, api.OK)
	n, e = parts.Mass(api.Catalogue{}, nil)
	want(t, "Mass without parts", n, e, 0, api.OK)
	for _, x := range []struct {
		bill []int
		e    api.Errno
	}{
		{make([]int, 9), api.ErrShape},
		{make([]int, 11), api.ErrShape},
		{nil, api.ErrShape},
		{[]int{-1}, api.ErrShape},
		{[]int{-1, 0, 0, 0, 0, 0, 0, 0, 0, 0}, api.ErrRange},
		{[]int{0, 0, 0, 0, 0, 0, 0, 0, 0, -1}, api.ErrRange},
		{[]int{0, 0, 0, 0, 0, 0, 1000001, 0, 0, 0}, api.ErrRange},
		{[]int{0, 0, math.MaxInt, math.MinInt, 0, 0, 0, 0, 0, 0}, api.ErrRange},
	} {
		n, e := parts.Mass(c, x.bill)
		want(t, "Mass", n, e, 0, x.e)
	}
	heavy := api.Catalogue{Parts: many(60)}
	for i := range heavy.Parts {
		heavy.Parts[i].Mass = api.MaxCount
	}
	n, e = parts.Mass(heavy, slices.Repeat([]int{api.MaxCount}, 60))
	want(t, "the greatest mass", n, e, 60*1000000*1000000, api.OK)
}
