package erection

import (
	"slices"

	"putlog/api"
)

// A line is the X and Y of nodes that stand straight above each other.
type line struct{ x, y int }

// A joint is a kind of members, and a node that they have.
type joint struct{ kind, node int }

// An index finds the members of a scaffold by their nodes.
type index struct {
	api.Scaffold
	numbers  map[api.Node]int // of the nodes by their places
	supports map[line][]int   // the bases and ties in a line
	guards   map[line][]int   // the guardrails and toe boards that have a node in a line
	begin    map[joint][]int  // the members from a node
	end      map[joint][]int  // the members to a node
	decks    map[int][]int    // the decks with a node as a corner
}

// indexOf returns the index of a scaffold in which parts.Check finds no error.
func indexOf(s api.Scaffold) index {
	x := index{
		s, map[api.Node]int{}, map[line][]int{}, map[line][]int{},
		map[joint][]int{}, map[joint][]int{}, map[int][]int{},
	}
	for i, n := range s.Nodes {
		x.numbers[n] = i
	}
	for i, m := range s.Members {
		from, to := joint{m.Kind, m.A}, joint{m.Kind, m.B}
		x.begin[from] = append(x.begin[from], i)
		x.end[to] = append(x.end[to], i)
		a, b := x.lineOf(m.A), x.lineOf(m.B)
		switch m.Kind {
		case api.KindTie, api.KindBase:
			x.supports[a] = append(x.supports[a], i)
		case api.KindGuardrail, api.KindToeBoard:
			x.guards[a] = append(x.guards[a], i)
			x.guards[b] = append(x.guards[b], i)
		case api.KindDeck:
			for _, c := range x.corners(m) {
				x.decks[c] = append(x.decks[c], i)
			}
		}
	}
	return x
}

// lineOf returns the line of a node.
func (x index) lineOf(node int) line {
	n := x.Nodes[node]
	return line{n.X, n.Y}
}

// corners returns the nodes at the corners of a deck.
func (x index) corners(deck api.Member) []int {
	p, q := x.Nodes[deck.A], x.Nodes[deck.B]
	return []int{
		deck.A, x.numbers[api.Node{X: q.X, Y: p.Y, Z: p.Z}],
		deck.B, x.numbers[api.Node{X: p.X, Y: q.Y, Z: p.Z}],
	}
}

// height returns the height of the lower node of one of the members.
func (x index) height(member int) int { return x.Nodes[x.Members[member].A].Z }

// needs returns the members that a member needs, each once.
func (x index) needs(m api.Member) []int {
	switch m.Kind {
	case api.KindStandard:
		return x.standardNeeds(m)
	case api.KindGuardrail, api.KindToeBoard:
		// As it lies along an axis, corners at both its nodes are neighbours.
		isApart := func(deck int) bool { return !slices.Contains(x.decks[m.B], deck) }
		decks := slices.DeleteFunc(slices.Clone(x.decks[m.A]), isApart)
		return slices.Concat(decks, x.begin[joint{api.KindStandard, m.A}], x.begin[joint{api.KindStandard, m.B}])
	case api.KindDeck:
		return x.carriers(m)
	case api.KindLadder:
		return x.ledgersAt(m.B)
	case api.KindTie:
		return x.end[joint{api.KindStandard, m.A}]
	case api.KindBase:
		return nil
	}
	return slices.Concat(x.holders(m.A), x.holders(m.B))
}

// standardNeeds returns the members that a standard needs.
func (x index) standardNeeds(m api.Member) []int {
	at, z := x.lineOf(m.A), x.Nodes[m.A].Z
	isAbove := func(support int) bool { return x.height(support) > z }
	isNotBelow := func(guard int) bool { return x.height(guard) >= z }
	out := slices.Concat(
		slices.DeleteFunc(slices.Clone(x.supports[at]), isAbove),
		slices.DeleteFunc(slices.Clone(x.guards[at]), isNotBelow),
	)
	ending := x.end[joint{api.KindStandard, m.A}]
	if len(ending) == 0 {
		return out
	}
	return slices.Concat(out, ending, x.ledgersAt(m.A), x.end[joint{api.KindBrace, m.A}])
}

// ledgersAt returns the ledgers and transoms that have a node.
func (x index) ledgersAt(node int) []int {
	ledger, transom := joint{api.KindLedger, node}, joint{api.KindTransom, node}
	return slices.Concat(x.begin[ledger], x.end[ledger], x.begin[transom], x.end[transom])
}

// holders returns the standards that end at a node, or, if none does, those that begin there.
func (x index) holders(node int) []int {
	j := joint{api.KindStandard, node}
	if ending := x.end[j]; len(ending) > 0 {
		return ending
	}
	return x.begin[j]
}

// carriers returns the ledgers and transoms between corners of a deck.
func (x index) carriers(deck api.Member) []int {
	corners := x.corners(deck)
	var out []int
	for _, kind := range []int{api.KindLedger, api.KindTransom} {
		for _, c := range corners {
			for _, i := range x.begin[joint{kind, c}] {
				if slices.Contains(corners, x.Members[i].B) {
					out = append(out, i)
				}
			}
		}
	}
	return out
}

// isHeld reports whether a standard is not loose for a height.
func (x index) isHeld(m api.Member, free int) bool {
	lower, upper := x.Nodes[m.A].Z, x.Nodes[m.B].Z
	holds := func(support int) bool {
		z := x.height(support)
		return z <= lower && upper-z <= free
	}
	return slices.ContainsFunc(x.supports[x.lineOf(m.A)], holds)
}
