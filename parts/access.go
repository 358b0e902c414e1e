package parts

import "putlog/api"

// Reached returns the decks that are reached.
func Reached(s api.Scaffold) ([]int, api.Errno) {
	a, e := accept(s)
	if e != api.OK {
		return nil, e
	}
	w := a.walk()
	w.climb()
	for len(w.next) > 0 {
		deck := w.next[0]
		w.next = w.next[1:]
		w.visit(deck)
	}
	var out []int
	for i := range a.Members {
		if w.reached[i] {
			out = append(out, i)
		}
	}
	return out, api.OK
}

// A walk goes from deck to deck. What it has used up is taken from its lists, so that it is looked at once.
type walk struct {
	accepted
	at      [][]int           // the decks with a corner at a node
	along   map[stretch][]int // the decks with a side
	ladders [][]int           // the nodes to which ladders lead from a node, up or down
	reached map[int]bool
	next    []int // decks that are reached, and not visited yet
}

// walk returns a walk that has not begun.
func (a accepted) walk() *walk {
	w := &walk{
		accepted: a,
		at:       make([][]int, len(a.Nodes)),
		along:    map[stretch][]int{},
		ladders:  make([][]int, len(a.Nodes)),
		reached:  map[int]bool{},
	}
	for side := range a.sides { // each corner is the beginning of one side
		w.at[side.A] = append(w.at[side.A], side.Deck)
		b := between(side.A, side.B)
		w.along[b] = append(w.along[b], side.Deck)
	}
	for _, m := range a.Members {
		if a.isStep(m) {
			w.ladders[m.A] = append(w.ladders[m.A], m.B)
			w.ladders[m.B] = append(w.ladders[m.B], m.A)
		}
	}
	return w
}

// isStep reports whether a member is a ladder that is not too long.
func (a accepted) isStep(m api.Member) bool {
	return m.Kind == api.KindLadder && a.Nodes[m.B].Z-a.Nodes[m.A].Z <= api.MaxStep
}

// climb takes all ladders from the ground.
func (w *walk) climb() {
	ground := map[int]bool{}
	for _, m := range w.Members {
		if m.Kind == api.KindBase {
			ground[m.A] = true
		}
	}
	for _, m := range w.Members {
		if w.isStep(m) && ground[m.A] {
			w.reach(w.at[m.B])
		}
	}
}

// visit goes on from a deck that is reached: over its sides, and by the ladders at its corners.
func (w *walk) visit(deck int) {
	for _, side := range w.sidesOf(deck) {
		b := between(side.A, side.B)
		w.reach(w.along[b])
		delete(w.along, b)
		for _, n := range w.ladders[side.A] {
			w.reach(w.at[n])
			w.at[n] = nil
		}
		w.ladders[side.A] = nil
	}
}

// reach marks decks as reached.
func (w *walk) reach(decks []int) {
	for _, d := range decks {
		if !w.reached[d] {
			w.reached[d] = true
			w.next = append(w.next, d)
		}
	}
}
