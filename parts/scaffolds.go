package parts

import "putlog/api"

// An accepted scaffold is one in which Check finds no error, with the numbers of its nodes by their places.
type accepted struct {
	api.Scaffold
	numbers map[api.Node]int
}

// Check accepts what is a scaffold.
func Check(s api.Scaffold) api.Errno {
	_, e := accept(s)
	return e
}

// Normal returns the normal form of a scaffold.
func Normal(s api.Scaffold) (api.Scaffold, api.Errno) {
	a, e := accept(s)
	if e != api.OK {
		return api.Scaffold{}, e
	}
	return built(a.places()), api.OK
}

// Square returns the squared distance of the nodes of a member.
func Square(s api.Scaffold, member int) (int, api.Errno) {
	a, e := accept(s)
	if e != api.OK {
		return 0, e
	}
	if member < 0 || member >= len(a.Members) {
		return 0, api.ErrMissing
	}
	return a.square(a.Members[member]), api.OK
}

// Components returns the number of parts into which a scaffold falls.
func Components(s api.Scaffold) (int, api.Errno) {
	a, e := accept(s)
	if e != api.OK {
		return 0, e
	}
	// Each node leads to one of the same part, until one that stands for the part and leads to itself.
	leads := make([]int, len(a.Nodes))
	for n := range leads {
		leads[n] = n
	}
	root := func(n int) int {
		for leads[n] != n {
			leads[n] = leads[leads[n]] // the next way is shorter
			n = leads[n]
		}
		return n
	}
	for _, m := range a.Members {
		for _, n := range a.ends(m) {
			leads[root(n)] = root(m.A)
		}
	}
	roots := map[int]bool{} // nodes without members are of no part
	for _, m := range a.Members {
		roots[root(m.A)] = true
	}
	return len(roots), api.OK
}

// accept returns the accepted scaffold, or the first error.
func accept(s api.Scaffold) (accepted, api.Errno) {
	if len(s.Nodes) > api.MaxNodes || len(s.Members) > api.MaxMembers {
		return accepted{}, api.ErrLarge
	}
	a := accepted{s, map[api.Node]int{}}
	for i, n := range a.Nodes {
		if !within(-api.MaxCoord, api.MaxCoord, n.X, n.Y, n.Z) {
			return accepted{}, api.ErrRange
		}
		if a.hasNode(n) {
			return accepted{}, api.ErrExists
		}
		a.numbers[n] = i
	}
	earlier := map[api.Member]bool{}
	for _, m := range a.Members {
		if e := a.memberError(m); e != api.OK {
			return accepted{}, e
		}
		if earlier[m] {
			return accepted{}, api.ErrExists
		}
		earlier[m] = true
	}
	return a, api.OK
}

// memberError is the first error of a member, but for ErrExists.
func (a accepted) memberError(m api.Member) api.Errno {
	switch {
	case !isKind(m.Kind):
		return api.ErrRange
	case !within(0, len(a.Nodes)-1, m.A, m.B):
		return api.ErrMissing
	case !a.isRight(m):
		return api.ErrForm
	}
	return api.OK
}

// isRight reports whether a member is as its kind requires.
func (a accepted) isRight(m api.Member) bool {
	p, q := a.Nodes[m.A], a.Nodes[m.B]
	switch m.Kind {
	case api.KindStandard, api.KindLadder:
		return p.X == q.X && p.Y == q.Y && p.Z < q.Z
	case api.KindBrace:
		return p.Z < q.Z && (p.X != q.X || p.Y != q.Y)
	case api.KindDeck:
		c := cornersOf(p, q)
		return p.Z == q.Z && p.X < q.X && p.Y < q.Y && a.hasNode(c[1]) && a.hasNode(c[3])
	case api.KindTie, api.KindBase:
		return m.A == m.B
	}
	return p.Z == q.Z && (p.X < q.X && p.Y == q.Y || p.X == q.X && p.Y < q.Y)
}

// hasNode reports whether there is a node at a place.
func (a accepted) hasNode(n api.Node) bool {
	_, there := a.numbers[n]
	return there
}

// cornersOf returns the corners of the deck from p to q, in their order.
func cornersOf(p, q api.Node) [4]api.Node {
	return [4]api.Node{p, {X: q.X, Y: p.Y, Z: p.Z}, q, {X: p.X, Y: q.Y, Z: p.Z}}
}

// corners returns the nodes at the corners of a deck, in their order.
func (a accepted) corners(deck api.Member) [4]int {
	var out [4]int
	for i, n := range cornersOf(a.Nodes[deck.A], a.Nodes[deck.B]) {
		out[i] = a.numbers[n]
	}
	return out
}

// ends returns the nodes of a member, each once.
func (a accepted) ends(m api.Member) []int {
	switch {
	case m.Kind == api.KindDeck:
		c := a.corners(m)
		return c[:]
	case isPoint(m.Kind):
		return []int{m.A}
	}
	return []int{m.A, m.B}
}

// square returns the squared distance of the nodes of a member.
func (a accepted) square(m api.Member) int {
	p, q := a.Nodes[m.A], a.Nodes[m.B]
	x, y, z := q.X-p.X, q.Y-p.Y, q.Z-p.Z
	return x*x + y*y + z*z
}
