package parts_test

import (
	"math"
	"slices"
	"strconv"
	"testing"

	"putlog/api"
	"putlog/building"
	"putlog/layout"
	"putlog/parts"
)

// P4.2 and the chapter's examples 1 and 2: the smallest scaffold with a deck.
func TestTheScaffold(t *testing.T) {
	s := theScaffold()
	wantError(t, "Check", parts.Check(s), api.OK)
	n, e := parts.Components(s)
	want(t, "Components", n, e, 1, api.OK)
	for i, square := range []int{0, 0, 0, 0, 4000000, 4000000, 4000000, 4000000, 4490000} {
		n, e := parts.Square(s, i)
		want(t, "Square", n, e, square, api.OK)
	}
	for _, i := range []int{-1, 9, math.MinInt, math.MaxInt} {
		n, e := parts.Square(s, i)
		want(t, "Square of no member", n, e, 0, api.ErrMissing)
	}
	n, e = parts.Square(api.Scaffold{}, 0)
	want(t, "Square in no members", n, e, 0, api.ErrMissing)
}

// P4.2: the geometry of each kind, for all directions from a node to another one.
func TestCheckGeometry(t *testing.T) {
	var s api.Scaffold
	for i := range 27 {
		s.Nodes = append(s.Nodes, api.Node{X: i/9 - 1, Y: i/3%3 - 1, Z: i%3 - 1})
	}
	for kind := range 10 {
		for a := range s.Nodes {
			for b := range s.Nodes {
				m := member(kind, a, b)
				e := api.ErrForm
				if right(s, m) {
					e = api.OK
				}
				s.Members = []api.Member{m}
				if got := parts.Check(s); got != e {
					t.Errorf("kind %d from %v to %v: error %d, want %d", kind, s.Nodes[a], s.Nodes[b], got, e)
				}
			}
		}
	}
}

// P4.2: a deck has nodes at its corners.
func TestCheckCorners(t *testing.T) {
	for i := range 4 {
		s := api.Scaffold{Nodes: nodes(0, 0, 5, 3, 0, 5, 3, 2, 5, 0, 2, 5)}
		s.Members = members(api.KindDeck, 0, 2)
		wantError(t, "a deck", parts.Check(s), api.OK)
		s.Nodes[i].Z++
		wantError(t, "a corner in the air", parts.Check(s), api.ErrForm)
	}
}

// P4.2: the errors of nodes and members, and their order.
func TestCheckErrors(t *testing.T) {
	two := nodes(0, 0, 0, 0, 0, 5)
	for i, c := range []struct {
		s api.Scaffold
		e api.Errno
	}{
		{api.Scaffold{}, api.OK},
		{api.Scaffold{Nodes: two}, api.OK},
		{api.Scaffold{Nodes: nodes(-1000000, 1000000, -1000000, 1000000, -1000000, 1000000)}, api.OK},
		{api.Scaffold{Nodes: nodes(0, 0, 0, -1000001, 0, 0)}, api.ErrRange},
		{api.Scaffold{Nodes: nodes(0, 0, 0, 1000001, 0, 0)}, api.ErrRange},
		{api.Scaffold{Nodes: nodes(0, 0, 0, 0, -1000001, 0)}, api.ErrRange},
		{api.Scaffold{Nodes: nodes(0, 0, 0, 0, 1000001, 0)}, api.ErrRange},
		{api.Scaffold{Nodes: nodes(0, 0, 0, 0, 0, -1000001)}, api.ErrRange},
		{api.Scaffold{Nodes: nodes(0, 0, 0, 0, 0, 1000001)}, api.ErrRange},
		{api.Scaffold{Nodes: nodes(0, 0, math.MaxInt)}, api.ErrRange},
		{api.Scaffold{Nodes: nodes(0, 0, math.MinInt)}, api.ErrRange},
		{api.Scaffold{Nodes: nodes(1, 2, 3, 1, 2, 4, 1, 2, 3)}, api.ErrExists},
		{api.Scaffold{Nodes: nodes(1000001, 0, 0, 1000001, 0, 0)}, api.ErrRange},
		{api.Scaffold{Nodes: nodes(1, 0, 0, 1, 0, 0, 1000001, 0, 0)}, api.ErrExists},
		{api.Scaffold{Nodes: nodes(1, 0, 0, 1, 0, 0), Members: members(-1, 0, 0)}, api.ErrExists},
		{api.Scaffold{Nodes: two, Members: members(0, 0, 1, -1, 0, 1)}, api.ErrRange},
		{api.Scaffold{Nodes: two, Members: members(0, 0, 1, 10, -1, 1)}, api.ErrRange},
		{api.Scaffold{Nodes: two, Members: members(0, 0, 1, 0, -1, 1)}, api.ErrMissing},
		{api.Scaffold{Nodes: two, Members: members(0, 0, 1, 0, 2, 1)}, api.ErrMissing},
		{api.Scaffold{Nodes: two, Members: members(0, 0, 1, 0, 0, -1)}, api.ErrMissing},
		{api.Scaffold{Nodes: two, Members: members(0, 0, 1, 0, 1, 2)}, api.ErrMissing},
		{api.Scaffold{Members: members(0, 0, 0)}, api.ErrMissing},
		{api.Scaffold{Nodes: two, Members: members(0, math.MinInt, math.MaxInt)}, api.ErrMissing},
		{api.Scaffold{Nodes: two, Members: members(0, 0, 1, 0, 1, 0)}, api.ErrForm},
		{api.Scaffold{Nodes: two, Members: members(0, 0, 1, 7, 0, 1, 0, 0, 1)}, api.ErrExists},
		{api.Scaffold{Nodes: two, Members: members(9, 0, 0, 8, 0, 0, 9, 1, 1, 8, 1, 1)}, api.OK},
		{api.Scaffold{Nodes: two, Members: members(9, 0, 0, 9, 0, 0)}, api.ErrExists},
		{api.Scaffold{Nodes: two, Members: members(0, 1, 0, 0, 1, 0)}, api.ErrForm},
		{api.Scaffold{Nodes: two, Members: members(0, 0, 1, 0, 0, 1, 0, 1, 0)}, api.ErrExists},
		{api.Scaffold{Nodes: two, Members: members(0, 1, 0, 10, 0, 1)}, api.ErrForm},
		{api.Scaffold{Nodes: two, Members: members(0, 9, 0, 10, 0, 1)}, api.ErrMissing},
	} {
		wantError(t, "scaffold "+strconv.Itoa(i), parts.Check(c.s), c.e)
	}
}

// column is n nodes above each other, and the members of some kinds between any two of them.
func column(n, most int, kinds ...int) api.Scaffold {
	var s api.Scaffold
	for i := range n {
		s.Nodes = append(s.Nodes, api.Node{Z: i})
	}
	for _, kind := range kinds {
		for a := range n {
			for b := a + 1; b < n && len(s.Members) < most; b++ {
				s.Members = append(s.Members, member(kind, a, b))
			}
		}
	}
	return s
}

// P4.2: as many nodes and members as there may be, and one more.
func TestCheckLimits(t *testing.T) {
	wantError(t, "1000 nodes", parts.Check(column(1000, 0)), api.OK)
	wantError(t, "1001 nodes", parts.Check(column(1001, 0)), api.ErrLarge)
	wantError(t, "4000 members", parts.Check(column(100, 4000, 0)), api.OK)
	wantError(t, "4001 members", parts.Check(column(100, 4001, 0)), api.ErrLarge)
	wantError(t, "equal nodes", parts.Check(api.Scaffold{Nodes: make([]api.Node, 1001)}), api.ErrLarge)
	wantError(t, "equal members", parts.Check(api.Scaffold{Members: make([]api.Member, 4001)}), api.ErrLarge)
	wantError(t, "fewer equal members", parts.Check(api.Scaffold{Nodes: nodes(0, 0, 0, 0, 0, 0), Members: make([]api.Member, 4001)}), api.ErrLarge)
}

// P4.2: the squared distances of many scaffolds.
func TestSquareOfAll(t *testing.T) {
	d := dice()
	for range 100 {
		s := small(d)
		wantError(t, "Check", parts.Check(s), api.OK)
		for i, m := range s.Members {
			p, q := s.Nodes[m.A], s.Nodes[m.B]
			n, e := parts.Square(s, i)
			want(t, "Square", n, e, (p.X-q.X)*(p.X-q.X)+(p.Y-q.Y)*(p.Y-q.Y)+(p.Z-q.Z)*(p.Z-q.Z), api.OK)
		}
	}
	long := api.Scaffold{Nodes: nodes(-1000000, 1000000, -1000000, 1000000, -1000000, 1000000), Members: members(api.KindBrace, 0, 1)}
	n, e := parts.Square(long, 0)
	want(t, "the longest brace", n, e, 12000000000000, api.OK)
}

// components counts the parts of a scaffold: members that meet take the lesser label.
func components(s api.Scaffold) int {
	labels := make([]int, len(s.Members))
	for i := range labels {
		labels[i] = i
	}
	for range labels {
		for i, m := range s.Members {
			for k, o := range s.Members {
				for _, n := range ends(s, m) {
					if slices.Contains(ends(s, o), n) {
						labels[i] = min(labels[i], labels[k])
					}
				}
			}
		}
	}
	count := 0
	for i, l := range labels {
		if i == l {
			count++
		}
	}
	return count
}

// P4.2: the parts into which scaffolds fall.
func TestComponents(t *testing.T) {
	for i, c := range []struct {
		s    api.Scaffold
		want int
	}{
		{api.Scaffold{}, 0},
		{api.Scaffold{Nodes: nodes(0, 0, 0, 1, 0, 0)}, 0},
		{api.Scaffold{Nodes: nodes(0, 0, 0, 1, 0, 0), Members: members(8, 0, 0)}, 1},
		{api.Scaffold{Nodes: nodes(0, 0, 0, 1, 0, 0), Members: members(8, 0, 0, 9, 0, 0, 9, 1, 1)}, 2},
		{api.Scaffold{Nodes: nodes(0, 0, 0, 1, 0, 0), Members: members(8, 0, 0, 9, 1, 1, 1, 0, 1)}, 1},
		{api.Scaffold{Nodes: theScaffold().Nodes, Members: theScaffold().Members[:8]}, 4},
		{column(1000, 999, 7), 1},
	} {
		n, e := parts.Components(c.s)
		want(t, "Components "+strconv.Itoa(i), n, e, c.want, api.OK)
	}
	d := dice()
	for range 100 {
		s := someScaffold(d, d.Intn(20), []int{-1, 0, 2}, []int{0, 1, 3}, []int{0, 2, 3})
		n, e := parts.Components(s)
		want(t, "Components of some", n, e, components(s), api.OK)
	}
}

// isNormal reports whether a scaffold is in normal form.
func isNormal(s api.Scaffold) bool {
	for i := range s.Nodes {
		if i > 0 && !before(s.Nodes[i-1], s.Nodes[i]) {
			return false
		}
		if !has(s, i, 0, 1, 2, 3, 4, 5, 6, 7, 8, 9) {
			return false
		}
	}
	for i, m := range s.Members {
		if i > 0 && !placeBefore(placeOf(s, s.Members[i-1]), placeOf(s, m)) {
			return false
		}
	}
	return true
}

// before reports whether a node comes before another one.
func before(p, q api.Node) bool {
	for _, sign := range signs(p, q) {
		if sign != 0 {
			return sign > 0
		}
	}
	return false
}

// placeBefore reports whether a place comes before another one.
func placeBefore(p, q api.Place) bool {
	switch {
	case p.Kind != q.Kind:
		return p.Kind < q.Kind
	case p.From != q.From:
		return before(p.From, q.From)
	}
	return before(p.To, q.To)
}

func placeOf(s api.Scaffold, m api.Member) api.Place {
	return api.Place{Kind: m.Kind, From: s.Nodes[m.A], To: s.Nodes[m.B]}
}

// placeSet is the places of the members of a scaffold.
func placeSet(s api.Scaffold) map[api.Place]bool {
	out := map[api.Place]bool{}
	for _, m := range s.Members {
		out[placeOf(s, m)] = true
	}
	return out
}

// P4.2: Normal, of a scaffold that is ordered by hand.
func TestNormal(t *testing.T) {
	s := theScaffold(member(api.KindLadder, 0, 4))
	s.Nodes = append(s.Nodes, api.Node{X: 1})
	right := api.Scaffold{
		Nodes: nodes(
			0, 0, 0, 0, 0, 2000, 0, 700, 0, 0, 700, 2000,
			2000, 0, 0, 2000, 0, 2000, 2000, 700, 0, 2000, 700, 2000),
		Members: members(0, 0, 1, 0, 2, 3, 0, 4, 5, 0, 6, 7, 6, 1, 7, 7, 0, 1, 9, 0, 0, 9, 2, 2, 9, 4, 4, 9, 6, 6),
	}
	n, e := parts.Normal(s)
	want(t, "Normal", n, e, right, api.OK)
	s.Members = s.Members[8:9]
	n, e = parts.Normal(s)
	want(t, "Normal of a deck", n, e, api.Scaffold{Nodes: nodes(0, 0, 2000, 0, 700, 2000, 2000, 0, 2000, 2000, 700, 2000), Members: members(6, 0, 3)}, api.OK)
	s.Members = nil
	n, e = parts.Normal(s)
	want(t, "Normal of nodes", n, e, api.Scaffold{}, api.OK)
}

// P4.2: Normal has the same places, and is the same for all orders of the nodes and members.
func TestNormalOfAll(t *testing.T) {
	d := dice()
	for range 200 {
		s := small(d)
		n, e := parts.Normal(s)
		wantError(t, "Normal", e, api.OK)
		if !isNormal(n) || !same(list(placeSet(n)), list(placeSet(s))) || len(n.Members) != len(s.Members) {
			t.Errorf("Normal of %v: %v", s, n)
		}
		other, e := parts.Normal(shuffled(d, s))
		want(t, "Normal of another order", other, e, n, api.OK)
	}
}

// list is the places of a set, in their order.
func list(set map[api.Place]bool) []api.Place {
	var out []api.Place
	for p := range set {
		out = append(out, p)
	}
	slices.SortFunc(out, func(p, q api.Place) int {
		switch {
		case placeBefore(p, q):
			return -1
		case placeBefore(q, p):
			return 1
		}
		return 0
	})
	return out
}

// laid is the scaffold of a layout round a house.
func laid(t *testing.T) api.Scaffold {
	t.Helper()
	b := api.Building{Name: "house", Roof: 8500, Storeys: []api.Storey{{Outline: []api.Point{{X: 0, Y: 0}, {X: 9000, Y: 0}, {X: 9000, Y: 4000}, {X: 4000, Y: 4000}, {X: 4000, Y: 9000}, {X: 0, Y: 9000}}}}}
	s := api.System{Bays: []int{1000, 2500}, Boards: []int{500}, Width: 500, Gap: 250, Lift: 2000}
	wantError(t, "building.Check", building.Check(b), api.OK)
	l, _, e := layout.Best(b, s)
	wantError(t, "layout.Best", e, api.OK)
	out, e := layout.Scaffold(b, s, l)
	wantError(t, "layout.Scaffold", e, api.OK)
	return out
}

// P4.2 and P4.4 for the scaffold of a layout: it is in normal form, has no free ends, its decks are reached,
// and without protection are the inner sides alone.
func TestLaidScaffold(t *testing.T) {
	s := laid(t)
	n, e := parts.Normal(s)
	want(t, "Normal", n, e, s, api.OK)
	l, e := parts.Free(s)
	want(t, "Free", l, e, []int(nil), api.OK)
	var decks []int
	for i, m := range s.Members {
		if m.Kind == api.KindDeck {
			decks = append(decks, i)
		}
	}
	l, e = parts.Reached(s)
	want(t, "Reached", l, e, decks, api.OK)
	open, e := parts.Unprotected(s, nil)
	wantError(t, "Unprotected", e, api.OK)
	// Each part of a run has one inner side, also where the next run joins it.
	if len(open) != len(decks) {
		t.Errorf("%d sides without protection at %d decks", len(open), len(decks))
	}
	for i, side := range open {
		if side.Deck != decks[i] {
			t.Errorf("the side %v, at the deck %d", side, decks[i])
		}
	}
}

// P1: the error of Check comes first, in each function with a scaffold.
func TestErrorsOfScaffolds(t *testing.T) {
	s := api.Scaffold{Nodes: nodes(0, 0, 0), Members: members(0, 0, 0)}
	good := theScaffold()
	n, e := parts.Normal(s)
	want(t, "Normal", n, e, api.Scaffold{}, api.ErrForm)
	i, e := parts.Square(s, -1)
	want(t, "Square", i, e, 0, api.ErrForm)
	i, e = parts.Components(s)
	want(t, "Components", i, e, 0, api.ErrForm)
	l, e := parts.Free(s)
	want(t, "Free", l, e, []int(nil), api.ErrForm)
	sides, e := parts.Sides(s)
	want(t, "Sides", sides, e, []api.Edge(nil), api.ErrForm)
	sides, e = parts.Unprotected(s, nil)
	want(t, "Unprotected", sides, e, []api.Edge(nil), api.ErrForm)
	l, e = parts.Reached(s)
	want(t, "Reached", l, e, []int(nil), api.ErrForm)
	l, e = parts.Blocked(s, make([]api.Box, 51))
	want(t, "Blocked", l, e, []int(nil), api.ErrForm)
	places, e := parts.Places(s)
	want(t, "Places", places, e, []api.Place(nil), api.ErrForm)
	change, e := parts.Diff(s, good)
	want(t, "Diff", change, e, api.Change{}, api.ErrForm)
	change, e = parts.Diff(good, s)
	want(t, "Diff", change, e, api.Change{}, api.ErrForm)
	change, e = parts.Diff(s, api.Scaffold{Nodes: nodes(0, 0, 0, 0, 0, 0)})
	want(t, "Diff", change, e, api.Change{}, api.ErrForm)
	n, e = parts.Apply(s, api.Change{Added: make([]api.Place, 4001)})
	want(t, "Apply", n, e, api.Scaffold{}, api.ErrForm)
	text, e := parts.Print(s)
	want(t, "Print", text, e, "", api.ErrForm)
}
