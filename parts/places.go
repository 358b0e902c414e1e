package parts

import (
	"cmp"
	"maps"
	"slices"

	"putlog/api"
)

// Places returns the places of the members, in their order.
func Places(s api.Scaffold) ([]api.Place, api.Errno) {
	a, e := accept(s)
	if e != api.OK {
		return nil, e
	}
	return a.places(), api.OK
}

// Diff returns what must be added to a scaffold, and removed from it, so that it has the places of another one.
func Diff(a, b api.Scaffold) (api.Change, api.Errno) {
	before, e := Places(a)
	if e != api.OK {
		return api.Change{}, e
	}
	after, e := Places(b)
	if e != api.OK {
		return api.Change{}, e
	}
	return api.Change{Added: without(after, before), Removed: without(before, after)}, api.OK
}

// Apply returns the normal form of a scaffold that has been changed.
func Apply(s api.Scaffold, c api.Change) (api.Scaffold, api.Errno) {
	a, e := accept(s)
	if e != api.OK {
		return api.Scaffold{}, e
	}
	if len(c.Added) > api.MaxMembers || len(c.Removed) > api.MaxMembers {
		return api.Scaffold{}, api.ErrLarge
	}
	there := setOf(a.places())
	for _, p := range c.Removed {
		if !there[p] {
			return api.Scaffold{}, api.ErrMissing
		}
		delete(there, p)
	}
	for _, p := range c.Added {
		if there[p] {
			return api.Scaffold{}, api.ErrExists
		}
		there[p] = true
	}
	out := built(slices.SortedFunc(maps.Keys(there), comparePlaces))
	if e := Check(out); e != api.OK {
		return api.Scaffold{}, e
	}
	return out, api.OK
}

// places returns the places of the members, in their order.
func (a accepted) places() []api.Place {
	var out []api.Place
	for _, m := range a.Members {
		out = append(out, api.Place{Kind: m.Kind, From: a.Nodes[m.A], To: a.Nodes[m.B]})
	}
	slices.SortFunc(out, comparePlaces)
	return out
}

// built returns the scaffold with members at places, in normal form if the places are in their order.
func built(places []api.Place) api.Scaffold {
	var s api.Scaffold
	for _, p := range places {
		s.Nodes = append(s.Nodes, p.From, p.To)
		if p.Kind == api.KindDeck {
			c := cornersOf(p.From, p.To)
			s.Nodes = append(s.Nodes, c[1], c[3])
		}
	}
	slices.SortFunc(s.Nodes, compareNodes)
	s.Nodes = slices.Compact(s.Nodes)
	for _, p := range places {
		from, _ := slices.BinarySearchFunc(s.Nodes, p.From, compareNodes)
		to, _ := slices.BinarySearchFunc(s.Nodes, p.To, compareNodes)
		s.Members = append(s.Members, api.Member{Kind: p.Kind, A: from, B: to})
	}
	return s
}

// without returns the places of a list that are not in another one.
func without(l, others []api.Place) []api.Place {
	there := setOf(others)
	var out []api.Place
	for _, p := range l {
		if !there[p] {
			out = append(out, p)
		}
	}
	return out
}

// setOf returns the set of the places of a list.
func setOf(l []api.Place) map[api.Place]bool {
	out := map[api.Place]bool{}
	for _, p := range l {
		out[p] = true
	}
	return out
}

func comparePlaces(p, q api.Place) int {
	return cmp.Or(cmp.Compare(p.Kind, q.Kind), compareNodes(p.From, q.From), compareNodes(p.To, q.To))
}

func compareNodes(p, q api.Node) int {
	return cmp.Or(cmp.Compare(p.X, q.X), cmp.Compare(p.Y, q.Y), cmp.Compare(p.Z, q.Z))
}
