package parts

import "putlog/api"

// Sides returns the sides of decks that are not shared.
func Sides(s api.Scaffold) ([]api.Edge, api.Errno) {
	a, e := accept(s)
	if e != api.OK {
		return nil, e
	}
	return a.openSides(), api.OK
}

// Unprotected returns the sides that are not shared, are no walls, and have not both a guardrail and a toe board.
func Unprotected(s api.Scaffold, walls []api.Edge) ([]api.Edge, api.Errno) {
	a, e := accept(s)
	if e != api.OK {
		return nil, e
	}
	closed := map[stretch]bool{}
	for _, w := range walls {
		closed[between(w.A, w.B)] = true
	}
	rails, boards := a.stretches(api.KindGuardrail), a.stretches(api.KindToeBoard)
	var out []api.Edge
	for _, side := range a.openSides() {
		b := between(side.A, side.B)
		if !closed[b] && !(rails[b] && boards[b]) {
			out = append(out, side)
		}
	}
	return out, api.OK
}

// A stretch is two nodes, the lesser number first: it is the same in either direction.
type stretch [2]int

// between returns the stretch between two nodes.
func between(a, b int) stretch { return stretch{min(a, b), max(a, b)} }

// stretches returns the stretches between the nodes of the members of a kind.
func (a accepted) stretches(kind int) map[stretch]bool {
	out := map[stretch]bool{}
	for _, m := range a.Members {
		if m.Kind == kind {
			out[between(m.A, m.B)] = true
		}
	}
	return out
}

// sides yields the sides of all decks, deck by deck.
func (a accepted) sides(yield func(api.Edge) bool) {
	for i, m := range a.Members {
		if m.Kind != api.KindDeck {
			continue
		}
		for _, side := range a.sidesOf(i) {
			if !yield(side) {
				return
			}
		}
	}
}

// sidesOf returns the sides of a deck, in their order.
func (a accepted) sidesOf(deck int) [4]api.Edge {
	var out [4]api.Edge
	corners := a.corners(a.Members[deck])
	for k, n := range corners {
		out[k] = api.Edge{Deck: deck, A: n, B: corners[(k+1)%len(corners)]}
	}
	return out
}

// openSides returns the sides that are not shared.
func (a accepted) openSides() []api.Edge {
	decks := map[stretch]int{}
	for side := range a.sides {
		decks[between(side.A, side.B)]++
	}
	var out []api.Edge
	for side := range a.sides {
		if decks[between(side.A, side.B)] == 1 {
			out = append(out, side)
		}
	}
	return out
}
