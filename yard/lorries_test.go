package yard_test

import (
	"math/rand"
	"slices"
	"testing"

	"putlog/api"
	"putlog/yard"
)

// loadsError is the error of a loading: of the first number or load that has one, at the end of all.
func loadsError(items []api.Item, lorry api.Lorry, loads [][]int) api.Errno {
	if len(loads) > len(items) {
		return api.ErrShape
	}
	seen := []int{}
	for _, load := range loads {
		if len(load) == 0 {
			return api.ErrZero
		}
		mass := 0
		for at, i := range load {
			if i < 0 || i >= len(items) {
				return api.ErrMissing
			}
			if at > 0 && load[at-1] >= i {
				return api.ErrOrder
			}
			if slices.Contains(seen, i) {
				return api.ErrExists
			}
			if items[i].Length > lorry.Length {
				return api.ErrLimit
			}
			mass += items[i].Mass
		}
		if mass > lorry.Mass {
			return api.ErrLimit
		}
		seen = append(seen, load...)
	}
	if len(seen) < len(items) {
		return api.ErrProof
	}
	return api.OK
}

// fewest is the least number of lorries: one item after the other goes on each of the lorries that have
// something, or on the next one.
func fewest(masses []int, most int) int {
	least := len(masses)
	lorries := []int{}
	var place func(i int)
	place = func(i int) {
		if len(lorries) >= least {
			return
		}
		if i == len(masses) {
			least = len(lorries)
			return
		}
		for k := range lorries {
			if lorries[k]+masses[i] <= most {
				lorries[k] += masses[i]
				place(i + 1)
				lorries[k] -= masses[i]
			}
		}
		lorries = append(lorries, masses[i])
		place(i + 1)
		lorries = lorries[:len(lorries)-1]
	}
	place(0)
	return least
}

// checkLoad checks that Load returns a loading with the fewest lorries.
func checkLoad(t *testing.T, masses []int, most int) {
	t.Helper()
	l, lorry := items(masses...), api.Lorry{Mass: most, Length: 1}
	loads, e := yard.Load(l, lorry)
	wantError(t, "Load", e, api.OK)
	if right := fewest(masses, most); loadsError(l, lorry, loads) != api.OK || len(loads) != right {
		t.Errorf("Load of %v on lorries of %d: %v, want %d loads", masses, most, loads, right)
	}
	wantError(t, "CheckLoads of Load", yard.CheckLoads(l, lorry, loads), api.OK)
	least, e := yard.LeastLorries(l, lorry)
	if e != api.OK || least > len(loads) {
		t.Errorf("LeastLorries of %v on lorries of %d: %d, error %d; %d are needed", masses, most, least, e, len(loads))
	}
}

// P8.5, P8.11: loadings with the fewest lorries; the first one is the chapter's example.
func TestLoad(t *testing.T) {
	for _, x := range []struct {
		masses []int
		most   int
	}{
		{[]int{6, 5, 4, 3}, 9},
		{[]int{9}, 9},
		{[]int{0}, 1},
		{[]int{0, 0, 0}, 1},
		{[]int{0, 9, 0, 9, 0}, 9},
		{[]int{5, 5, 5, 5}, 9},
		{[]int{5, 5, 5, 5}, 10},
		{[]int{1, 1, 1, 1, 1, 1, 1, 1, 1, 1, 1, 1}, 12},
		{[]int{1, 1, 1, 1, 1, 1, 1, 1, 1, 1, 1, 1}, 1},
		{[]int{1, 1, 1, 1, 1, 1, 1, 1, 1, 1, 1, 1}, 5},
		{[]int{44, 24, 24, 22, 21, 17, 8, 8, 6, 6}, 61}, // those that take the heaviest first need four
		{[]int{3, 3, 2, 2, 2, 3, 3, 2, 2, 2, 1, 1}, 7},  // some of these are full
		{[]int{4, 4, 5, 5, 6, 6, 4, 4, 5, 5, 6, 6}, 15}, // all of these are full
		{[]int{100000000, 99999999, 1, 50000000}, 100000000},
		{[]int{51, 27, 26, 23, 11, 51, 27, 26, 23, 11}, 100},
	} {
		checkLoad(t, x.masses, x.most)
	}
	loads, e := yard.Load(nil, api.Lorry{Mass: 1})
	want(t, "Load of nothing", loads, e, [][]int{}, api.OK)
	loads, e = yard.Load(bundles("a", 5, 3, "a", 5, 3), api.Lorry{Mass: 10, Length: 3})
	want(t, "Load of two items of one name", loads, e, [][]int{{0, 1}}, api.OK)
}

// P8.5, P8.11: items of all sorts.
func TestLoadByAllLoadings(t *testing.T) {
	d := dice()
	full := 0
	for i := range 1500 {
		n := d.Intn(9)
		if i%10 == 0 {
			n = 12
		}
		most := 1 + d.Intn(40)
		masses, sum := []int{}, 0
		for range n {
			masses = append(masses, min(most, d.Intn(1+d.Intn(most+1))+d.Intn(2)))
			sum += masses[len(masses)-1]
		}
		checkLoad(t, masses, most)
		if n > 3 && sum%most > 0 && sum%most < most/4 {
			full++
		}
	}
	if full < 50 {
		t.Errorf("only %d loadings are about full", full)
	}
}

// P8.5: numbers of lorries.
func TestLeastLorries(t *testing.T) {
	for _, x := range []struct {
		masses      []int
		most, right int
	}{
		{[]int{6, 5, 4, 3}, 9, 2},
		{[]int{6, 5, 4, 3}, 10, 2},
		{[]int{6, 5, 4, 3}, 8, 3},
		{[]int{6, 5, 4, 3}, 1, 18},
		{[]int{6, 5, 4, 3}, 18, 1},
		{[]int{6, 5, 4, 3}, 17, 2},
		{[]int{6, 5, 4, 3}, 100000000, 1},
		{[]int{0}, 1, 1},
		{[]int{0, 0}, 100, 1},
		{nil, 1, 0},
		{[]int{10}, 3, 4}, // it is too heavy, which is not asked
		{slices.Repeat([]int{100000000}, 200), 1, 20000000000},
		{slices.Repeat([]int{100000000}, 200), 100000000, 200},
	} {
		n, e := yard.LeastLorries(items(x.masses...), api.Lorry{Mass: x.most}) // all items are too long, which is not asked
		want(t, "LeastLorries", n, e, x.right, api.OK)
	}
}

// P8.5: loadings of the chapter's items that are right, and that are not.
func TestCheckLoads(t *testing.T) {
	lorry := api.Lorry{Mass: 9, Length: 5}
	long := items(6, 5, 4, 3)
	long[2].Length = 6
	for _, x := range []struct {
		l     []api.Item
		loads [][]int
		is    api.Errno
	}{
		{items(6, 5, 4, 3), [][]int{{0, 3}, {1, 2}}, api.OK},
		{items(6, 5, 4, 3), [][]int{{1, 2}, {0, 3}}, api.OK},
		{items(6, 5, 4, 3), [][]int{{3}, {2}, {1}, {0}}, api.OK},
		{items(6, 5, 4, 3), [][]int{{3, 0}, {1, 2}}, api.ErrOrder},
		{items(6, 5, 4, 3), [][]int{{0, 0, 3}, {1, 2}}, api.ErrOrder},
		{items(6, 5, 4, 3), [][]int{{0, 2}, {1, 3}}, api.ErrLimit},
		{items(6, 5, 4, 3), [][]int{{0, 3}, {1}}, api.ErrProof},
		{items(6, 5, 4, 3), nil, api.ErrProof},
		{items(6, 5, 4, 3), [][]int{{0, 3}, {1, 2}, {}}, api.ErrZero},
		{items(6, 5, 4, 3), [][]int{{0, 3}, {0}, {1, 2}}, api.ErrExists},
		{items(6, 5, 4, 3), [][]int{{0, 3}, {1, 3}, {2}}, api.ErrExists},
		{items(6, 5, 4, 3), [][]int{{0, 4}}, api.ErrMissing},
		{items(6, 5, 4, 3), [][]int{{-1}}, api.ErrMissing},
		{items(6, 5, 4, 3), [][]int{{0, -1}}, api.ErrMissing},              // and does not ascend
		{items(6, 5, 4, 3), [][]int{{0, 3}, {1, 0}}, api.ErrOrder},         // and is there already
		{items(6, 5, 4, 3), [][]int{{0}, {0, 1, 2, 3}}, api.ErrExists},     // and too heavy
		{items(6, 5, 4, 3), [][]int{{0, 1, 9}}, api.ErrMissing},            // and too heavy
		{items(6, 5, 4, 3), [][]int{{0, 1}, {}}, api.ErrLimit},             // and an empty one behind it
		{items(6, 5, 4, 3), [][]int{{}, {0, 1}}, api.ErrZero},              // and one that is too heavy
		{items(6, 5, 4, 3), [][]int{{}, {}, {}, {}, {}}, api.ErrShape},     // and empty
		{items(6, 5, 4, 3), [][]int{{0}, {1}, {2}, {3}, {}}, api.ErrShape}, // and empty
		{long, [][]int{{0, 3}, {1}, {2}}, api.ErrLimit},
		{long, [][]int{{0, 3}, {1}}, api.ErrProof},
		{long, [][]int{{2, 1}}, api.ErrLimit}, // and does not ascend
		{items(9, 0), [][]int{{0, 1}}, api.OK},
		{items(9, 1), [][]int{{0, 1}}, api.ErrLimit},
		{nil, nil, api.OK},
		{nil, [][]int{{}}, api.ErrShape},
		{nil, [][]int{{0}}, api.ErrShape},
	} {
		if e := loadsError(x.l, lorry, x.loads); e != x.is {
			t.Errorf("the error of %v is to be %d, not %d", x.loads, e, x.is)
		}
		if e := yard.CheckLoads(x.l, lorry, x.loads); e != x.is {
			t.Errorf("CheckLoads of %v: error %d, want %d", x.loads, e, x.is)
		}
	}
}

// someLoads is loads of items, most of which are right, and some of which have other numbers.
func someLoads(d *rand.Rand, n int) [][]int {
	loads := make([][]int, 1+d.Intn(4))
	for i := range n {
		k := d.Intn(len(loads))
		loads[k] = append(loads[k], i)
	}
	loads = slices.DeleteFunc(loads, func(l []int) bool { return len(l) == 0 && d.Intn(8) > 0 })
	for range d.Intn(3) * d.Intn(2) {
		if len(loads) == 0 {
			break
		}
		k := d.Intn(len(loads))
		loads[k] = slices.Insert(loads[k], d.Intn(len(loads[k])+1), d.Intn(n+2)-1)
	}
	return loads
}

// P8.5: loadings of all sorts.
func TestCheckLoadsByDefinition(t *testing.T) {
	d := dice()
	results := map[api.Errno]int{}
	for range 20000 {
		l := []api.Item{}
		for range d.Intn(6) {
			l = append(l, api.Item{Name: "a", Mass: d.Intn(10), Length: d.Intn(4) + d.Intn(3)})
		}
		lorry := api.Lorry{Mass: 1 + d.Intn(30), Length: 3 + d.Intn(4)}
		loads := someLoads(d, len(l))
		right := loadsError(l, lorry, loads)
		results[right]++
		if e := yard.CheckLoads(l, lorry, loads); e != right {
			t.Errorf("CheckLoads of %v, %v, %v: error %d, want %d", l, lorry, loads, e, right)
		}
	}
	for _, e := range []api.Errno{api.OK, api.ErrShape, api.ErrZero, api.ErrMissing, api.ErrOrder, api.ErrExists, api.ErrLimit} {
		if results[e] < 100 {
			t.Errorf("only %d loadings have the error %d", results[e], e)
		}
	}
}

// itemFaults is the errors of items, in their order.
func itemFaults() [][]fault {
	list := [][]fault{one(api.ErrLarge, func(x *input) { x.items = append(x.items, make([]api.Item, 197)...) })}
	for i := range 2 {
		list = append(list,
			misnamed(func(x *input) *string { return &x.items[i].Name }),
			slices.Concat(
				beyond(api.ErrRange, 0, 100000000, func(x *input) *int { return &x.items[i].Mass }),
				beyond(api.ErrRange, 0, 100000000, func(x *input) *int { return &x.items[i].Length }),
			),
		)
	}
	return append(list, slices.Concat(
		beyond(api.ErrRange, 1, 100000000, func(x *input) *int { return &x.lorry.Mass }),
		beyond(api.ErrRange, 0, 100000000, func(x *input) *int { return &x.lorry.Length }),
	))
}

// P8.5: the errors of items, and what comes behind them.
func TestLorryErrors(t *testing.T) {
	check := func(x input) api.Errno { return yard.CheckLoads(x.items, x.lorry, x.loads) }
	least := func(x input) api.Errno {
		n, e := yard.LeastLorries(x.items, x.lorry)
		if e != api.OK {
			want(t, "LeastLorries", n, e, 0, e)
		}
		return e
	}
	load := func(x input) api.Errno {
		l, e := yard.Load(x.items, x.lorry)
		if e != api.OK {
			want(t, "Load", l, e, [][]int{}, e)
		}
		return e
	}
	inOrder(t, "LeastLorries", least, itemFaults()...)
	inOrder(t, "CheckLoads", check, append(itemFaults(),
		one(api.ErrShape, func(x *input) { x.loads = append(x.loads, nil, nil, nil) }),
		one(api.ErrZero, func(x *input) { x.loads[0] = nil }),
		one(api.ErrMissing, func(x *input) { x.loads[1] = []int{4} }),
	)...)
	inOrder(t, "Load", load, append(itemFaults(),
		one(api.ErrLarge, func(x *input) { x.items = append(x.items, items(make([]int, 9)...)...) }),
		[]fault{
			{api.ErrLimit, func(x *input) { x.items[2].Mass = 10 }},
			{api.ErrLimit, func(x *input) { x.items[3].Length = 2 }},
			{api.ErrLimit, func(x *input) { x.lorry.Length = 0 }},
		},
	)...)
	for i := range 2 {
		for _, call := range []func(x input) api.Errno{check, load, least} {
			within(t, "the mass of an item", 0, 1, func(x *input) *int { return &x.items[i].Mass }, call)
			within(t, "the length of an item", 0, 1, func(x *input) *int { return &x.items[i].Length }, call)
		}
		within(t, "the length of an item", 0, 100000000, func(x *input) *int { return &x.items[i].Length }, least)
		within(t, "the mass of an item", 0, 100000000, func(x *input) *int { return &x.items[i].Mass }, least)
	}
	within(t, "the mass of a lorry", 1, 100000000, func(x *input) *int { return &x.lorry.Mass }, least)
	within(t, "the length of a lorry", 0, 100000000, func(x *input) *int { return &x.lorry.Length }, least)
	x := fine()
	x.items, x.loads, x.lorry.Length = items(make([]int, 200)...), nil, 100000000
	for i := range x.items {
		x.items[i].Length = 100000000
		x.loads = append(x.loads, []int{i})
	}
	wantError(t, "CheckLoads of 200 items", check(x), api.OK)
	wantError(t, "LeastLorries of 200 items", least(x), api.OK)
	wantError(t, "Load of 200 items", load(x), api.ErrLarge)
	x.items = x.items[:12]
	wantError(t, "Load of 12 items", load(x), api.OK)
	x.items = items(make([]int, 201)...)
	x.items[0].Name = ""
	wantError(t, "Load of 201 items", load(x), api.ErrLarge)
}
