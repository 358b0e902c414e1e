package parts_test

import (
	"slices"
	"strconv"
	"testing"

	"putlog/api"
	"putlog/parts"
)

// P4.4 and the chapter's example 1: a deck is reached by a ladder from a base.
func TestReached(t *testing.T) {
	l, e := parts.Reached(theScaffold())
	want(t, "Reached", l, e, []int(nil), api.OK)
	for a := range 4 {
		l, e = parts.Reached(theScaffold(member(api.KindLadder, a, a+4)))
		want(t, "Reached by a ladder", l, e, []int{8}, api.OK)
		s := theScaffold(member(api.KindLadder, a, a+4))
		s.Members = lasting(s.Members, a) // its base
		l, e = parts.Reached(s)
		want(t, "Reached from no base", l, e, []int(nil), api.OK)
	}
}

// tower is decks at the four heights, with nodes at their corners and at the ground: the nodes 4 k to 4 k + 3
// are those of the height k. The base 0 is at node 0, the decks are the members 1 to 4.
func tower(z1, z2, z3, z4 int) api.Scaffold {
	s := api.Scaffold{Members: members(api.KindBase, 0, 0, 6, 4, 6, 6, 8, 10, 6, 12, 14, 6, 16, 18)}
	for _, z := range []int{0, z1, z2, z3, z4} {
		s.Nodes = append(s.Nodes, nodes(0, 0, z, 5, 0, z, 5, 5, z, 0, 5, z)...)
	}
	return s
}

// P4.4: ladders up and down, and those that are too long.
func TestReachedByLadders(t *testing.T) {
	for i, c := range []struct {
		s    api.Scaffold
		more []api.Member
		want []int
	}{
		{tower(1, 2, 3, 4), members(7, 0, 4), []int{1}},
		{tower(1, 2, 3, 4), members(7, 0, 4, 7, 5, 9, 7, 8, 12, 7, 14, 18), []int{1, 2, 3, 4}},
		{tower(1, 2, 3, 4), members(7, 14, 18, 7, 8, 12, 7, 5, 9, 7, 0, 4), []int{1, 2, 3, 4}},
		{tower(1, 2, 3, 4), members(7, 0, 4, 7, 5, 9, 7, 14, 18), []int{1, 2}},
		{tower(1, 2, 3, 4), members(7, 0, 8), []int{2}},
		{tower(1, 2, 3, 4), members(7, 0, 16, 7, 7, 15, 7, 5, 17), []int{1, 3, 4}}, // down from 4 to 1, up from 1 to 3
		{tower(1, 2, 3, 4), members(7, 1, 5), nil},                                 // there is no base at 1
		{tower(1, 2, 3, 4), members(7, 1, 5, 9, 5, 5, 9, 4, 4), nil},
		{tower(1, 2, 3, 4), members(7, 5, 9, 9, 5, 5), []int{1, 2}}, // a base at a corner of 1: up to 2, and down
		{tower(1, 2, 3, 4), members(0, 0, 4, 3, 0, 5), nil},
		{tower(6000, 6001, 12001, 12002), members(7, 0, 4), []int{1}},
		{tower(6000, 6001, 12001, 12002), members(7, 0, 8), nil},
		{tower(6000, 6001, 12001, 12002), members(7, 0, 4, 7, 5, 13), []int{1}},
		{tower(6000, 6001, 12000, 12002), members(7, 0, 4, 7, 5, 13), []int{1, 3}},
		{tower(6000, 6001, 12001, 12002), members(7, 0, 4, 7, 5, 9, 7, 8, 12), []int{1, 2, 3}},
		{tower(6000, 6001, 12001, 12002), members(7, 0, 4, 7, 5, 9, 7, 8, 16), []int{1, 2}},
		{tower(-2, -1, 1, 2), members(9, 4, 4, 7, 4, 8), []int{1, 2}},
	} {
		c.s.Members = append(c.s.Members, c.more...)
		l, e := parts.Reached(c.s)
		want(t, "Reached by ladders "+strconv.Itoa(i), l, e, c.want, api.OK)
	}
}

// P4.4: decks that share a side, and others that touch.
func TestReachedAcross(t *testing.T) {
	s := api.Scaffold{
		Nodes: nodes(
			0, 0, 0,
			0, 0, 2, 4, 0, 2, 8, 0, 2,
			0, 1, 2, 4, 1, 2, 8, 1, 2,
			2, 1, 2, 0, 3, 2, 2, 3, 2,
			8, 2, 2, 9, 1, 2, 9, 2, 2),
		// Decks 2 and 3 in a row, 4 over half of a side of 2, 5 at a corner of 3.
		Members: members(9, 0, 0, 7, 0, 1, 6, 1, 5, 6, 2, 6, 6, 4, 9, 6, 6, 12),
	}
	l, e := parts.Reached(s)
	want(t, "Reached", l, e, []int{2, 3}, api.OK)
	// A ladder down from the corners of two decks does not lead from the one to the other by itself.
	s.Nodes = append(s.Nodes, api.Node{X: 0, Y: 1, Z: 1})
	s.Members = append(s.Members, member(api.KindLadder, 13, 4))
	l, e = parts.Reached(s)
	want(t, "Reached", l, e, []int{2, 3}, api.OK)
	s.Members = append(s.Members, member(api.KindBase, 13, 13))
	l, e = parts.Reached(s)
	want(t, "Reached", l, e, []int{2, 3, 4}, api.OK)
}

// reached goes from decks to decks until no more are reached.
func reached(s api.Scaffold) []int {
	got := map[int]bool{}
	isCorner := func(deck, node int) bool { return slices.Contains(ends(s, s.Members[deck]), node) }
	step := func(deck int) bool {
		for _, m := range s.Members {
			if m.Kind != api.KindLadder || s.Nodes[m.B].Z-s.Nodes[m.A].Z > 6000 {
				continue
			}
			if isCorner(deck, m.B) && has(s, m.A, api.KindBase) {
				return true
			}
			for from := range got {
				if isCorner(from, m.A) && isCorner(deck, m.B) || isCorner(from, m.B) && isCorner(deck, m.A) {
					return true
				}
			}
		}
		for from := range got {
			common := 0
			for _, n := range ends(s, s.Members[from]) {
				if isCorner(deck, n) {
					common++ // opposite corners in common would make it the same deck
				}
			}
			if common == 2 {
				return true
			}
		}
		return false
	}
	for range s.Members {
		for i, m := range s.Members {
			if m.Kind == api.KindDeck && !got[i] && step(i) {
				got[i] = true
			}
		}
	}
	var out []int
	for i := range s.Members {
		if got[i] {
			out = append(out, i)
		}
	}
	return out
}

// P4.4: Reached of many scaffolds.
func TestReachedOfAll(t *testing.T) {
	d := dice()
	some, all := 0, 0
	for range 500 {
		s := tall(d)
		right := reached(s)
		for _, m := range s.Members {
			if m.Kind == api.KindDeck {
				all++
			}
		}
		some += len(right)
		l, e := parts.Reached(s)
		want(t, "Reached", l, e, right, api.OK)
	}
	if some < all/8 || some > all*7/8 {
		t.Errorf("%d of %d decks are reached", some, all)
	}
}

// P4.4: a long row of decks, and very many decks at one node.
func TestReachedFar(t *testing.T) {
	s := api.Scaffold{Nodes: nodes(0, 0, 0), Members: members(9, 0, 0, 7, 0, 1)}
	var right []int
	for i := range 400 {
		s.Nodes = append(s.Nodes, nodes(i, 0, 2, i, 1, 2)...)
		if i > 0 {
			right = append(right, len(s.Members))
			s.Members = append(s.Members, member(api.KindDeck, 2*i-1, 2*i+2))
		}
	}
	wantError(t, "Check", parts.Check(s), api.OK)
	l, e := parts.Reached(s)
	want(t, "Reached in a row", l, e, right, api.OK)

	s = api.Scaffold{Nodes: nodes(0, 0, 0)}
	for x := range 31 {
		for y := range 31 {
			s.Nodes = append(s.Nodes, api.Node{X: x, Y: y, Z: 9})
		}
	}
	right = nil
	for x := 1; x < 31; x++ {
		for y := 1; y < 31; y++ {
			right = append(right, len(s.Members))
			s.Members = append(s.Members, member(api.KindDeck, 1, 1+31*x+y))
		}
	}
	s.Members = append(s.Members, member(api.KindBase, 0, 0), member(api.KindLadder, 0, 1))
	l, e = parts.Reached(s)
	want(t, "Reached at a node", l, e, right, api.OK)
}
