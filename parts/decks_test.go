package parts_test

import (
	"math"
	"slices"
	"testing"

	"putlog/api"
	"putlog/parts"
)

// theEdges is the sides of the deck of the chapter's scaffold.
func theEdges() []api.Edge {
	return []api.Edge{edge(8, 4, 5), edge(8, 5, 6), edge(8, 6, 7), edge(8, 7, 4)}
}

// P4.4 and the chapter's examples 1 and 3: sides, and which of them are not protected.
func TestSides(t *testing.T) {
	s := theScaffold()
	l, e := parts.Sides(s)
	want(t, "Sides", l, e, theEdges(), api.OK)
	l, e = parts.Unprotected(s, nil)
	want(t, "Unprotected", l, e, theEdges(), api.OK)
	without := func(i int) []api.Edge { return lasting(theEdges(), i) }
	for _, w := range []struct {
		walls []api.Edge
		want  []api.Edge
	}{
		{[]api.Edge{edge(8, 7, 6)}, without(2)},
		{[]api.Edge{edge(8, 6, 7)}, without(2)},
		{[]api.Edge{edge(-5, 4, 5)}, without(0)},
		{[]api.Edge{edge(0, 4, 7), edge(0, 4, 7), edge(1, 7, 4)}, without(3)},
		{[]api.Edge{edge(8, 4, 6), edge(8, -1, 5), edge(8, math.MinInt, math.MaxInt), edge(8, 5, 5)}, theEdges()},
		{[]api.Edge{edge(0, 4, 5), edge(0, 5, 6), edge(0, 6, 7), edge(0, 7, 4)}, nil},
	} {
		l, e = parts.Unprotected(s, w.walls)
		want(t, "Unprotected beside walls", l, e, w.want, api.OK)
	}
	// The guardrail and the toe board of a side, whichever way it goes.
	for i, m := range [][]int{{4, 5}, {5, 6}, {7, 6}, {4, 7}} {
		rail, board := member(api.KindGuardrail, m[0], m[1]), member(api.KindToeBoard, m[0], m[1])
		l, e = parts.Unprotected(theScaffold(rail, board), nil)
		want(t, "Unprotected beside both", l, e, without(i), api.OK)
		l, e = parts.Unprotected(theScaffold(rail), nil)
		want(t, "Unprotected beside a guardrail", l, e, theEdges(), api.OK)
		l, e = parts.Unprotected(theScaffold(board), nil)
		want(t, "Unprotected beside a toe board", l, e, theEdges(), api.OK)
		l, e = parts.Unprotected(theScaffold(rail, member(api.KindLedger, m[0], m[1]), member(api.KindTransom, m[0], m[1])), nil)
		want(t, "Unprotected beside others", l, e, theEdges(), api.OK)
		l, e = parts.Sides(theScaffold(rail, board))
		want(t, "Sides beside both", l, e, theEdges(), api.OK)
	}
}

// P4.4: decks beside each other: 0, 1 and 2 in a row, 3 over half of the side of 0, and 4 above 0.
func TestSidesShared(t *testing.T) {
	s := api.Scaffold{
		Nodes: nodes(
			0, 0, 2, 4, 0, 2, 8, 0, 2, 9, 0, 2,
			0, 1, 2, 4, 1, 2, 8, 1, 2, 9, 1, 2,
			2, 1, 2, 0, 3, 2, 2, 3, 2,
			0, 0, 4, 4, 0, 4, 0, 1, 4, 4, 1, 4),
		Members: members(6, 1, 6, 6, 0, 5, 6, 2, 7, 6, 4, 10, 6, 11, 14, 4, 1, 5),
	}
	right := []api.Edge{
		edge(0, 1, 2), edge(0, 6, 5),
		edge(1, 0, 1), edge(1, 5, 4), edge(1, 4, 0),
		edge(2, 2, 3), edge(2, 3, 7), edge(2, 7, 6),
		edge(3, 4, 8), edge(3, 8, 10), edge(3, 10, 9), edge(3, 9, 4),
		edge(4, 11, 12), edge(4, 12, 14), edge(4, 14, 13), edge(4, 13, 11),
	}
	l, e := parts.Sides(s)
	want(t, "Sides", l, e, right, api.OK)
	l, e = parts.Unprotected(s, []api.Edge{edge(3, 2, 1), edge(0, 10, 8)})
	want(t, "Unprotected", l, e, lasting(lasting(right, 9), 0), api.OK)
}

// sides is the sides of decks that are not shared.
func sides(s api.Scaffold) []api.Edge {
	var all, out []api.Edge
	for i, m := range s.Members {
		if m.Kind != api.KindDeck {
			continue
		}
		c := ends(s, m)
		for k := range c {
			all = append(all, edge(i, c[k], c[(k+1)%4]))
		}
	}
	for _, x := range all {
		if !slices.ContainsFunc(all, func(y api.Edge) bool { return y.Deck != x.Deck && alike(x, y) }) {
			out = append(out, x)
		}
	}
	return out
}

// alike reports whether two sides have the same nodes.
func alike(x, y api.Edge) bool {
	return x.A == y.A && x.B == y.B || x.A == y.B && x.B == y.A
}

// P4.4: Sides and Unprotected of many scaffolds.
func TestSidesOfAll(t *testing.T) {
	d := dice()
	for range 300 {
		s := small(d)
		right := sides(s)
		l, e := parts.Sides(s)
		want(t, "Sides", l, e, right, api.OK)
		for k := range min(10, len(right)) { // more rails and boards
			a, b := min(right[k].A, right[k].B), max(right[k].A, right[k].B)
			for _, kind := range []int{api.KindGuardrail, api.KindToeBoard} {
				for _, m := range []api.Member{member(kind, a, b), member(kind, b, a)} {
					if d.Intn(3) > 0 && !slices.Contains(s.Members, m) && signs(s.Nodes[m.A], s.Nodes[m.B])[0] >= 0 && signs(s.Nodes[m.A], s.Nodes[m.B])[1] >= 0 {
						s.Members = append(s.Members, m)
					}
				}
			}
		}
		var walls, open []api.Edge
		for range d.Intn(5) {
			walls = append(walls, edge(d.Intn(3), d.Intn(len(s.Nodes)), d.Intn(len(s.Nodes))))
		}
		for _, x := range right {
			between := func(kind int) bool {
				return slices.ContainsFunc(s.Members, func(m api.Member) bool { return m.Kind == kind && alike(x, edge(0, m.A, m.B)) })
			}
			wall := slices.ContainsFunc(walls, func(w api.Edge) bool { return alike(x, w) })
			if !wall && (!between(api.KindGuardrail) || !between(api.KindToeBoard)) {
				open = append(open, x)
			}
		}
		l, e = parts.Unprotected(s, walls)
		want(t, "Unprotected", l, e, open, api.OK)
	}
}
