package parts_test

import (
	"math"
	"math/rand"
	"slices"
	"strconv"
	"testing"

	"putlog/api"
	"putlog/parts"
)

// thePlaces is the places of the chapter's scaffold.
func thePlaces() []api.Place {
	return []api.Place{
		place(0, 0, 0, 0, 0, 0, 2000), place(0, 0, 700, 0, 0, 700, 2000),
		place(0, 2000, 0, 0, 2000, 0, 2000), place(0, 2000, 700, 0, 2000, 700, 2000),
		theDeck(),
		place(9, 0, 0, 0, 0, 0, 0), place(9, 0, 700, 0, 0, 700, 0),
		place(9, 2000, 0, 0, 2000, 0, 0), place(9, 2000, 700, 0, 2000, 700, 0),
	}
}

func theDeck() api.Place { return place(6, 0, 0, 2000, 2000, 700, 2000) }

// P4.6: Places, by Kind, From and To.
func TestPlaces(t *testing.T) {
	l, e := parts.Places(theScaffold())
	want(t, "Places", l, e, thePlaces(), api.OK)
	s := api.Scaffold{
		Nodes:   nodes(0, 0, 5, 0, 5, 0, 5, 0, 0, 0, 0, 0),
		Members: members(1, 3, 2, 3, 1, 0, 1, 3, 1, 8, 0, 0, 8, 2, 2, 8, 1, 1, 8, 3, 3, 0, 3, 0),
	}
	l, e = parts.Places(s)
	want(t, "Places", l, e, []api.Place{
		place(0, 0, 0, 0, 0, 0, 5), place(1, 0, 0, 0, 0, 5, 0), place(1, 0, 0, 0, 5, 0, 0), place(3, 0, 5, 0, 0, 0, 5),
		place(8, 0, 0, 0, 0, 0, 0), place(8, 0, 0, 5, 0, 0, 5), place(8, 0, 5, 0, 0, 5, 0), place(8, 5, 0, 0, 5, 0, 0),
	}, api.OK)
	l, e = parts.Places(api.Scaffold{Nodes: nodes(0, 0, 0)})
	want(t, "Places of nodes", l, e, []api.Place(nil), api.OK)
	d := dice()
	for range 100 {
		s := small(d)
		l, e := parts.Places(s)
		want(t, "Places of some", l, e, list(placeSet(s)), api.OK)
	}
}

// P4.6 and the chapter's example 6: Diff.
func TestDiff(t *testing.T) {
	s, bare := theScaffold(), theScaffold()
	bare.Members = bare.Members[:8]
	c, e := parts.Diff(s, bare)
	want(t, "Diff", c, e, api.Change{Removed: []api.Place{theDeck()}}, api.OK)
	c, e = parts.Diff(bare, s)
	want(t, "Diff", c, e, api.Change{Added: []api.Place{theDeck()}}, api.OK)
	c, e = parts.Diff(s, s)
	want(t, "Diff of the same", c, e, api.Change{}, api.OK)
	c, e = parts.Diff(s, api.Scaffold{})
	want(t, "Diff with nothing", c, e, api.Change{Removed: thePlaces()}, api.OK)
	c, e = parts.Diff(api.Scaffold{}, s)
	want(t, "Diff of nothing", c, e, api.Change{Added: thePlaces()}, api.OK)
	more := theScaffold()
	more.Nodes = append(more.Nodes, api.Node{X: 7})
	c, e = parts.Diff(s, more)
	want(t, "Diff with a node more", c, e, api.Change{}, api.OK)
}

// P4.6: Diff of many scaffolds.
func TestDiffOfAll(t *testing.T) {
	d := dice()
	for range 200 {
		a, b := small(d), small(d)
		added, removed := placeSet(b), placeSet(a)
		for p := range placeSet(a) {
			delete(added, p)
		}
		for p := range placeSet(b) {
			delete(removed, p)
		}
		c, e := parts.Diff(a, b)
		want(t, "Diff", c, e, api.Change{Added: list(added), Removed: list(removed)}, api.OK)
		c, e = parts.Diff(a, shuffled(d, a))
		want(t, "Diff with another order", c, e, api.Change{}, api.OK)
	}
}

// P4.6: Apply, by hand.
func TestApply(t *testing.T) {
	normal, _ := parts.Normal(theScaffold())
	s, e := parts.Apply(theScaffold(), api.Change{})
	want(t, "Apply of nothing", s, e, normal, api.OK)
	s, e = parts.Apply(theScaffold(), api.Change{Removed: []api.Place{theDeck()}, Added: []api.Place{theDeck()}})
	want(t, "Apply of the same", s, e, normal, api.OK)
	s, e = parts.Apply(api.Scaffold{Nodes: nodes(1, 1, 1)}, api.Change{})
	want(t, "Apply to a node", s, e, api.Scaffold{}, api.OK)
	all := thePlaces()
	slices.Reverse(all)
	s, e = parts.Apply(api.Scaffold{}, api.Change{Added: all})
	want(t, "Apply of all", s, e, normal, api.OK)
	s, e = parts.Apply(theScaffold(), api.Change{Removed: all})
	want(t, "Apply of no more", s, e, api.Scaffold{}, api.OK)
	// The other corners of a deck are made nodes.
	s, e = parts.Apply(api.Scaffold{}, api.Change{Added: []api.Place{theDeck()}})
	want(t, "Apply of a deck", s, e, api.Scaffold{Nodes: nodes(0, 0, 2000, 0, 700, 2000, 2000, 0, 2000, 2000, 700, 2000), Members: members(6, 0, 3)}, api.OK)
	// They stay nodes where all other members there are removed.
	s, e = parts.Apply(theScaffold(), api.Change{Removed: lasting(thePlaces(), 4)})
	want(t, "Apply but for a deck", s, e, api.Scaffold{Nodes: nodes(0, 0, 2000, 0, 700, 2000, 2000, 0, 2000, 2000, 700, 2000), Members: members(6, 0, 3)}, api.OK)
}

// P4.6: changes that are refused, and the order of the errors.
func TestApplyErrors(t *testing.T) {
	there, bad, other := theDeck(), place(6, 0, 0, 0, 0, 0, 5), place(9, 1, 1, 1, 1, 1, 1)
	l := func(l ...api.Place) []api.Place { return l }
	far := place(9, 1000001, 0, 0, 1000001, 0, 0)
	for i, c := range []struct {
		added, removed []api.Place
		e              api.Errno
	}{
		{nil, l(other), api.ErrMissing},
		{nil, l(there, there), api.ErrMissing},
		{nil, l(place(5, 0, 0, 2000, 2000, 700, 2000)), api.ErrMissing},
		{nil, l(place(6, 2000, 700, 2000, 0, 0, 2000)), api.ErrMissing},
		{l(other), l(other), api.ErrMissing},
		{l(there), nil, api.ErrExists},
		{l(there, there), l(there), api.ErrExists},
		{l(other, other), nil, api.ErrExists},
		{l(bad, bad), nil, api.ErrExists},
		{l(there), l(other), api.ErrMissing},
		{l(bad), l(other), api.ErrMissing},
		{l(bad, there), nil, api.ErrExists},
		{l(bad), nil, api.ErrForm},
		{l(place(0, 5, 5, 5, 5, 5, 5)), nil, api.ErrForm},
		{l(place(0, 5, 5, 5, 5, 5, 4)), nil, api.ErrForm},
		{l(place(9, 5, 5, 5, 5, 5, 6)), nil, api.ErrForm},
		{l(place(6, 0, 700, 0, 2000, 0, 0)), nil, api.ErrForm},
		{l(far), nil, api.ErrRange},
		{l(place(0, 0, 0, math.MinInt, 0, 0, math.MaxInt)), nil, api.ErrRange},
		{l(place(10, 1, 1, 1, 1, 1, 1)), nil, api.ErrRange},
		{l(place(-1, 1, 1, 1, 1, 1, 1)), nil, api.ErrRange},
		{l(place(math.MinInt, 1, 1, 1, 1, 1, 1)), nil, api.ErrRange},
		// Of the result, in its normal form, the nodes are looked at first, and then the members by their kinds.
		{l(bad, far), nil, api.ErrRange},
		{l(place(10, 1, 1, 1, 1, 1, 1), bad), nil, api.ErrForm},
		{l(bad, place(-1, 1, 1, 1, 1, 1, 1)), nil, api.ErrRange},
		{slices.Repeat(l(other), 4000), nil, api.ErrExists},
		{slices.Repeat(l(other), 4001), nil, api.ErrLarge},
		{nil, slices.Repeat(l(there), 4000), api.ErrMissing},
		{nil, slices.Repeat(l(there), 4001), api.ErrLarge},
		{slices.Repeat(l(other), 4001), l(other), api.ErrLarge},
		{l(there), slices.Repeat(l(there), 4001), api.ErrLarge},
	} {
		s, e := parts.Apply(theScaffold(), api.Change{Added: c.added, Removed: c.removed})
		want(t, "Apply "+strconv.Itoa(i), s, e, api.Scaffold{}, c.e)
	}
}

// P4.6: results with as many nodes and members as there may be, and one more.
func TestApplyLimits(t *testing.T) {
	bases := func(from, to int) []api.Place {
		var out []api.Place
		for n := from; n < to; n++ {
			out = append(out, place(9, 0, 0, n, 0, 0, n))
		}
		return out
	}
	s, e := parts.Apply(column(999, 998, 0), api.Change{Added: bases(0, 1000)})
	wantError(t, "1000 nodes", e, api.OK)
	if len(s.Nodes) != 1000 || len(s.Members) != 1998 {
		t.Errorf("%d nodes, %d members", len(s.Nodes), len(s.Members))
	}
	s, e = parts.Apply(column(999, 998, 0), api.Change{Added: bases(0, 1001)})
	want(t, "1001 nodes", s, e, api.Scaffold{}, api.ErrLarge)
	s, e = parts.Apply(column(100, 3999, 0), api.Change{Added: bases(0, 1)})
	wantError(t, "4000 members", e, api.OK)
	if len(s.Nodes) != 100 || len(s.Members) != 4000 {
		t.Errorf("%d nodes, %d members", len(s.Nodes), len(s.Members))
	}
	s, e = parts.Apply(column(100, 3999, 0), api.Change{Added: bases(0, 2)})
	want(t, "4001 members", s, e, api.Scaffold{}, api.ErrLarge)
	// Nodes without members are gone before the others come.
	s, e = parts.Apply(column(1000, 0), api.Change{Added: bases(500, 1500)})
	wantError(t, "1000 other nodes", e, api.OK)
	if len(s.Nodes) != 1000 || len(s.Members) != 1000 {
		t.Errorf("%d nodes, %d members", len(s.Nodes), len(s.Members))
	}
	// The members that are removed make room for others.
	large := column(100, 4000, 0)
	places, _ := parts.Places(large)
	s, e = parts.Apply(large, api.Change{Added: bases(0, 1000), Removed: places})
	wantError(t, "other members", e, api.OK)
	if len(s.Nodes) != 1000 || len(s.Members) != 1000 {
		t.Errorf("%d nodes, %d members", len(s.Nodes), len(s.Members))
	}
}

// someChange is a change of a scaffold, and the places behind it; it may have an error.
func someChange(d *rand.Rand, s api.Scaffold) (api.Change, map[api.Place]bool, api.Errno) {
	set := placeSet(s)
	all := list(set)
	var c api.Change
	e := api.OK
	for _, i := range d.Perm(len(all)) {
		if d.Intn(3) == 0 {
			c.Removed = append(c.Removed, all[i])
			delete(set, all[i])
		}
	}
	if d.Intn(10) == 0 {
		e = api.ErrMissing
		c.Removed = slices.Insert(c.Removed, d.Intn(len(c.Removed)+1), place(9, 7, 7, 7, 7, 7, 7))
	}
	more := list(placeSet(small(d)))
	for _, i := range d.Perm(len(more)) {
		if set[more[i]] {
			if d.Intn(10) > 0 {
				continue
			}
			if e == api.OK {
				e = api.ErrExists
			}
		}
		c.Added = append(c.Added, more[i])
		set[more[i]] = true
	}
	return c, set, e
}

// P4.6: Apply of many changes.
func TestApplyOfAll(t *testing.T) {
	d := dice()
	count := map[api.Errno]int{}
	for range 500 {
		s := small(d)
		c, set, f := someChange(d, s)
		got, e := parts.Apply(s, c)
		count[f]++
		if f != api.OK {
			want(t, "Apply", got, e, api.Scaffold{}, f)
			continue
		}
		if e != api.OK || !isNormal(got) || !same(list(placeSet(got)), list(set)) {
			t.Errorf("Apply of %v to %v: %v, error %d", c, s, got, e)
		}
	}
	if count[api.OK] < 50 || count[api.ErrMissing] < 20 || count[api.ErrExists] < 20 {
		t.Errorf("changes: %v", count)
	}
}
