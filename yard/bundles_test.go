package yard_test

import (
	"fmt"
	"slices"
	"strconv"
	"testing"

	"putlog/api"
	"putlog/yard"
)

// partCalled is the part with a name.
func partCalled(parts []api.Part, name string) api.Part {
	return parts[slices.IndexFunc(parts, func(p api.Part) bool { return p.Name == name })]
}

// lengthOf is the least whole number whose square is at least a number.
func lengthOf(square int) int {
	n := 0
	for n*n < square {
		n++
	}
	return n
}

// bundlesOf is the bundles of wants, into which one part after the other is put.
func bundlesOf(w []api.Want, parts []api.Part, most int) []api.Item {
	out := []api.Item{}
	for _, x := range w {
		p := partCalled(parts, x.Part)
		for i := range x.Count {
			if last := len(out) - 1; i > 0 && out[last].Mass+p.Mass <= most {
				out[last].Mass += p.Mass
			} else {
				out = append(out, api.Item{Name: p.Name, Mass: p.Mass, Length: lengthOf(p.Square)})
			}
		}
	}
	return out
}

// P8.4: masses.
func TestMass(t *testing.T) {
	sixty := []api.Part{}
	for i := range 60 {
		sixty = append(sixty, api.Part{Name: "p" + strconv.Itoa(i), Mass: 1000000})
	}
	all := []api.Want{}
	for _, p := range sixty {
		all = append(all, api.Want{Part: p.Name, Count: 1000000})
	}
	for _, x := range []struct {
		w     []api.Want
		parts []api.Part
		right int
	}{
		{nil, nil, 0},
		{nil, theParts(), 0},
		{wants("tube", 10), theParts(), 60000},
		{wants("half", 3, "tube", 10, "half", 1), theParts(), 62000},
		{wants("half", 0, "tube", 0), theParts(), 0},
		{wants("a", 1000000), []api.Part{{Name: "a"}}, 0},
		{all, sixty, 60000000000000},
	} {
		n, e := yard.Mass(x.w, x.parts)
		want(t, "Mass", n, e, x.right, api.OK)
	}
}

// P8.4: only names, squared lengths and masses of parts are looked at.
func TestOtherFieldsOfParts(t *testing.T) {
	parts := []api.Part{{Name: "a", Kind: -7, Square: 9, Mass: 5, Strength: -1, Ends: [2]int{-1, 99}}}
	n, e := yard.Mass(wants("a", 3), parts)
	want(t, "Mass", n, e, 15, api.OK)
	l, e := yard.Bundles(wants("a", 3), parts, 10)
	want(t, "Bundles", l, e, []api.Item{{Name: "a", Mass: 10, Length: 3}, {Name: "a", Mass: 5, Length: 3}}, api.OK)
}

// P8.4: bundles; the first ones are the chapter's example.
func TestBundles(t *testing.T) {
	tubes := func(masses ...int) []api.Item {
		out := []api.Item{}
		for _, m := range masses {
			out = append(out, api.Item{Name: "tube", Mass: m, Length: 2000})
		}
		return out
	}
	for _, x := range []struct {
		count, most int
		right       []api.Item
	}{
		{10, 25000, tubes(24000, 24000, 12000)},
		{10, 24000, tubes(24000, 24000, 12000)},
		{8, 24000, tubes(24000, 24000)},
		{10, 23999, tubes(18000, 18000, 18000, 6000)},
		{10, 60000, tubes(60000)},
		{10, 59999, tubes(54000, 6000)},
		{10, 100000000, tubes(60000)},
		{3, 6000, tubes(6000, 6000, 6000)},
		{1, 6000, tubes(6000)},
		{0, 6000, nil},
		{0, 1, nil}, // it is too heavy, but not wanted
	} {
		l, e := yard.Bundles(wants("tube", x.count), theParts(), x.most)
		want(t, "Bundles", l, e, x.right, api.OK)
	}
	l, e := yard.Bundles(nil, nil, 1)
	want(t, "Bundles of nothing", l, e, []api.Item{}, api.OK)
	l, e = yard.Bundles(wants("a", 1000000, "b", 0, "a", 1), []api.Part{{Name: "b"}, {Name: "a", Square: 1}}, 1)
	want(t, "Bundles of parts without mass", l, e, []api.Item{{Name: "a", Length: 1}, {Name: "a", Length: 1}}, api.OK)
	l, e = yard.Bundles(wants("tube", 3, "half", 30, "tube", 1), theParts(), 12500)
	right := slices.Concat(tubes(12000, 6000), bundles("half", 12500, 1415, "half", 2500, 1415), tubes(6000))
	want(t, "Bundles of several wants", l, e, right, api.OK)
	l, e = yard.Bundles(wants("a", 250), []api.Part{{Name: "a", Mass: 1000000}}, 100000000)
	want(t, "Bundles of the heaviest parts", l, e, bundles("a", 100000000, 0, "a", 100000000, 0, "a", 50000000, 0), api.OK)
}

// P8.4: the lengths of parts.
func TestLengths(t *testing.T) {
	squares := []int{0, 1, 2, 3, 4, 5, 8, 9, 10, 24, 25, 26, 20000000000000, 19999999999999, 4472135 * 4472135, 4472135*4472135 + 1, 4472135*4472135 - 1}
	for n := 11; n < 4000000; n = n*7/3 + 1 {
		squares = append(squares, n*n-1, n*n, n*n+1)
	}
	for _, square := range squares {
		l, e := yard.Bundles(wants("a", 1), []api.Part{{Name: "a", Square: square}}, 1)
		want(t, fmt.Sprint("Bundles of the squared length ", square), l, e, []api.Item{{Name: "a", Length: lengthOf(square)}}, api.OK)
	}
}

// P8.4: bundles compared with those that are filled part by part.
func TestBundlesByParts(t *testing.T) {
	d := dice()
	for range 2000 {
		parts, w := []api.Part{}, []api.Want{}
		for _, name := range partNames()[:1+d.Intn(5)] {
			parts = append(parts, api.Part{Name: name, Square: d.Intn(200), Mass: d.Intn(12)})
		}
		mass := 0
		for range d.Intn(6) {
			p := parts[d.Intn(len(parts))]
			w = append(w, api.Want{Part: p.Name, Count: d.Intn(30)})
			mass += p.Mass * w[len(w)-1].Count
		}
		n, e := yard.Mass(w, parts)
		want(t, "Mass", n, e, mass, api.OK)
		most := 11 + d.Intn(90)
		l, e := yard.Bundles(w, parts, most)
		want(t, "Bundles", l, e, bundlesOf(w, parts, most), api.OK)
	}
}

// massFaults is the errors of Mass, in their order.
func massFaults() [][]fault {
	list := append([][]fault{one(api.ErrShape, func(x *input) { x.wants = append(x.wants, make([]api.Want, 59)...) })},
		wantFaults(0, func(x *input) *[]api.Want { return &x.wants })...)
	list = append(list, one(api.ErrLarge, func(x *input) { x.parts = append(x.parts, make([]api.Part, 59)...) }))
	for i := range 2 {
		list = append(list, misnamed(func(x *input) *string { return &x.parts[i].Name }))
		if i == 1 {
			list = append(list, one(api.ErrExists, func(x *input) { x.parts[1].Name = x.parts[0].Name }))
		}
		list = append(list, slices.Concat(
			beyond(api.ErrRange, 0, 20000000000000, func(x *input) *int { return &x.parts[i].Square }),
			beyond(api.ErrRange, 0, 1000000, func(x *input) *int { return &x.parts[i].Mass }),
		))
	}
	return append(list, []fault{
		{api.ErrMissing, func(x *input) { x.wants[0].Part = "tub" }},
		{api.ErrMissing, func(x *input) { x.wants[1] = api.Want{Part: "clip"} }},
	})
}

// P8.4: the errors of Mass and Bundles.
func TestMassErrors(t *testing.T) {
	mass := func(x input) api.Errno {
		n, e := yard.Mass(x.wants, x.parts)
		if e != api.OK {
			want(t, "Mass", n, e, 0, e)
		}
		return e
	}
	bundles := func(x input) api.Errno {
		l, e := yard.Bundles(x.wants, x.parts, x.most)
		if e != api.OK {
			want(t, "Bundles", l, e, []api.Item{}, e)
		}
		return e
	}
	inOrder(t, "Mass", mass, massFaults()...)
	inOrder(t, "Bundles", bundles, append(massFaults(),
		beyond(api.ErrRange, 1, 100000000, func(x *input) *int { return &x.most }),
		[]fault{
			{api.ErrLimit, func(x *input) { x.most = 5999 }},
			{api.ErrLimit, func(x *input) { x.parts[1].Mass, x.wants[1].Count = 25001, 1 }},
		},
		[]fault{{api.ErrLarge, func(x *input) { x.wants[0].Count = 797 }}}, // 200 bundles of tubes, one of halves
	)...)
	for i := range 2 {
		within(t, "Mass", 0, 1000000, func(x *input) *int { return &x.wants[i].Count }, mass)
		within(t, "Mass", 0, 1000000, func(x *input) *int { return &x.parts[i].Mass }, mass)
		within(t, "Mass", 0, 20000000000000, func(x *input) *int { return &x.parts[i].Square }, mass)
	}
	x := fine()
	x.parts = nil
	wantError(t, "Mass without parts", mass(x), api.ErrMissing)
	wantError(t, "Bundles without parts", bundles(x), api.ErrMissing)
	x = fine()
	x.wants[0].Count = 796
	wantError(t, "Bundles of 200", bundles(x), api.OK)
	x.wants = append(x.wants, api.Want{Part: "half"})
	wantError(t, "Bundles of 200 and a want of none", bundles(x), api.OK)
	x.wants[0].Count = 1000000
	wantError(t, "Bundles of far too many", bundles(x), api.ErrLarge)
	x.wants, x.parts = slices.Repeat(x.wants[:1], 60), x.parts[:1]
	for i := range 59 {
		x.parts = append(x.parts, api.Part{Name: "p" + strconv.Itoa(i)})
	}
	wantError(t, "Mass of 60 wants and parts", mass(x), api.OK)
}
