package parts_test

import (
	"strconv"
	"testing"

	"putlog/api"
	"putlog/parts"
)

// P4.4 and the chapter's example 1: free ends.
func TestFree(t *testing.T) {
	s := theScaffold()
	l, e := parts.Free(s)
	want(t, "Free", l, e, []int(nil), api.OK)
	// Without the base 1 its standard is free; without the standard 5 its base and the deck are.
	for _, c := range []struct {
		gone int
		want []int
	}{{0, []int{3}}, {1, []int{4}}, {3, []int{6}}, {4, []int{0, 7}}, {5, []int{1, 7}}, {6, []int{2, 7}}, {7, []int{3, 7}}, {8, nil}} {
		less := s
		less.Members = lasting(s.Members, c.gone)
		l, e := parts.Free(less)
		want(t, "Free without "+strconv.Itoa(c.gone), l, e, c.want, api.OK)
	}
}

// P4.4: free ends of each kind, at standards from node 0 over 1 to 2 and from 3 to 4; there is none at 5 and 6.
func TestFreeOfKinds(t *testing.T) {
	s := api.Scaffold{
		Nodes:   nodes(0, 0, 0, 0, 0, 2, 0, 0, 4, 3, 0, 2, 3, 0, 4, 3, 3, 2, 0, 3, 2),
		Members: members(9, 0, 0, 0, 0, 1, 0, 1, 2, 9, 3, 3, 0, 3, 4),
	}
	for _, c := range []struct {
		m    api.Member
		free bool
	}{
		{member(api.KindLedger, 1, 3), false},
		{member(api.KindLedger, 2, 4), false},
		{member(api.KindLedger, 6, 5), true},
		{member(api.KindTransom, 3, 5), true},
		{member(api.KindTransom, 1, 6), true},
		{member(api.KindGuardrail, 1, 3), false},
		{member(api.KindToeBoard, 6, 5), true},
		{member(api.KindBrace, 0, 3), false},
		{member(api.KindBrace, 5, 4), true},
		{member(api.KindBrace, 0, 5), true},
		{member(api.KindLadder, 0, 1), false},
		{member(api.KindLadder, 0, 2), false},
		{member(api.KindDeck, 1, 5), true},
		{member(api.KindTie, 2, 2), false},
		{member(api.KindTie, 5, 5), true},
		{member(api.KindBase, 1, 1), false},
		{member(api.KindBase, 6, 6), true},
		{member(api.KindStandard, 0, 2), false},
	} {
		with := s
		with.Members = append(members(), s.Members...)
		with.Members = append(with.Members, c.m)
		var right []int
		if c.free {
			right = []int{5}
		}
		l, e := parts.Free(with)
		want(t, "Free "+strconv.Itoa(c.m.Kind), l, e, right, api.OK)
	}
	// A standard does not stand on the lower end of another one, on a tie, or on a deck.
	l, e := parts.Free(api.Scaffold{Nodes: nodes(0, 0, 0, 0, 0, 1, 0, 0, 2), Members: members(0, 0, 1, 0, 0, 2, 8, 0, 0)})
	want(t, "Free of standards", l, e, []int{0, 1}, api.OK)
	// Of these the upper one stands on the lower one, which is free.
	l, e = parts.Free(api.Scaffold{Nodes: nodes(0, 0, 0, 0, 0, 1, 0, 0, 2), Members: members(0, 1, 2, 0, 0, 1)})
	want(t, "Free of a pile", l, e, []int{1}, api.OK)
}

// isFree reports whether member i has a free end.
func isFree(s api.Scaffold, i int) bool {
	m := s.Members[i]
	if m.Kind == api.KindStandard {
		for _, o := range s.Members {
			if o.Kind == api.KindBase && o.A == m.A || o.Kind == api.KindStandard && o.B == m.A {
				return false
			}
		}
		return true
	}
	for _, n := range ends(s, m) {
		if !has(s, n, api.KindStandard) {
			return true
		}
	}
	return false
}

// P4.4: Free of many scaffolds.
func TestFreeOfAll(t *testing.T) {
	d := dice()
	for range 300 {
		s := small(d)
		var right []int
		for i := range s.Members {
			if isFree(s, i) {
				right = append(right, i)
			}
		}
		l, e := parts.Free(s)
		want(t, "Free", l, e, right, api.OK)
	}
}
