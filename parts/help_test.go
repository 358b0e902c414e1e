package parts_test

import (
	"cmp"
	"math/rand"
	"reflect"
	"slices"
	"testing"

	"putlog/api"
)

// The tests call the exported functions only. They compare with definitions that are gone through word by
// word, member against member, on scaffolds with few nodes.

// dice is a repeatable row of chances.
func dice() *rand.Rand { return rand.New(rand.NewSource(7)) }

// nodes is a list of nodes, X, Y and Z by turns.
func nodes(l ...int) []api.Node {
	out := []api.Node{}
	for i := 0; i < len(l); i += 3 {
		out = append(out, api.Node{X: l[i], Y: l[i+1], Z: l[i+2]})
	}
	return out
}

// members is a list of members, Kind, A and B by turns.
func members(l ...int) []api.Member {
	out := []api.Member{}
	for i := 0; i < len(l); i += 3 {
		out = append(out, api.Member{Kind: l[i], A: l[i+1], B: l[i+2]})
	}
	return out
}

func member(kind, a, b int) api.Member { return api.Member{Kind: kind, A: a, B: b} }

func edge(deck, a, b int) api.Edge { return api.Edge{Deck: deck, A: a, B: b} }

func box(x1, y1, z1, x2, y2, z2 int) api.Box {
	return api.Box{X1: x1, Y1: y1, Z1: z1, X2: x2, Y2: y2, Z2: z2}
}

// place is a place, of the kind and the coordinates of both nodes.
func place(kind int, l ...int) api.Place {
	n := nodes(l...)
	return api.Place{Kind: kind, From: n[0], To: n[1]}
}

// theScaffold is the smallest scaffold with a deck, of the chapter's examples: the bases are the members 0
// to 3, the standards 4 to 7, the deck 8.
func theScaffold(more ...api.Member) api.Scaffold {
	return api.Scaffold{
		Nodes: nodes(
			0, 0, 0, 2000, 0, 0, 2000, 700, 0, 0, 700, 0,
			0, 0, 2000, 2000, 0, 2000, 2000, 700, 2000, 0, 700, 2000),
		Members: append(members(
			api.KindBase, 0, 0, api.KindBase, 1, 1, api.KindBase, 2, 2, api.KindBase, 3, 3,
			api.KindStandard, 0, 4, api.KindStandard, 1, 5, api.KindStandard, 2, 6, api.KindStandard, 3, 7,
			api.KindDeck, 4, 6), more...),
	}
}

func part(name string, kind, square, mass, strength, a, b int) api.Part {
	return api.Part{Name: name, Kind: kind, Square: square, Mass: mass, Strength: strength, Ends: [2]int{a, b}}
}

// theCatalogue has a part for each member of the chapter's examples, and others.
func theCatalogue() api.Catalogue {
	return api.Catalogue{
		Parts: []api.Part{
			part("short", api.KindStandard, 1000000, 5000, 20000, 1, 2),
			part("post", api.KindStandard, 4000000, 9000, 20000, 1, 2),
			part("foot", api.KindBase, 0, 3000, 30000, 3, 3),
			part("deck", api.KindDeck, 4490000, 21000, 2000, 4, 4),
			part("post-2", api.KindStandard, 4000000, 9500, 20000, 1, 2),
			part("post-3", api.KindStandard, 4000000, 8000, 19999, 1, 2),
			part("post-4", api.KindStandard, 4000000, 9000, 40000, 2, 1),
			part("post-5", api.KindStandard, 4000000, 9900, 20001, 1, 2),
			part("ledger", api.KindLedger, 4000000, 7000, 9000, 1, 2),
			part("tie", api.KindTie, 0, 800, 6000, 5, 6),
		},
		Pairs: [][2]int{{1, 2}, {3, 1}, {4, 2}, {5, 5}, {20, 0}},
	}
}

// same compares two values; a nil slice is as an empty one.
func same(a, b any) bool { return sameValue(reflect.ValueOf(a), reflect.ValueOf(b)) }

func sameValue(a, b reflect.Value) bool {
	if a.Kind() != b.Kind() || a.Kind() != reflect.Invalid && a.Type() != b.Type() {
		return false
	}
	switch a.Kind() {
	case reflect.Slice, reflect.Array:
		if a.Len() != b.Len() {
			return false
		}
		for i := range a.Len() {
			if !sameValue(a.Index(i), b.Index(i)) {
				return false
			}
		}
		return true
	case reflect.Struct:
		for i := range a.NumField() {
			if !sameValue(a.Field(i), b.Field(i)) {
				return false
			}
		}
		return true
	case reflect.Interface:
		return sameValue(a.Elem(), b.Elem())
	}
	return reflect.DeepEqual(a.Interface(), b.Interface())
}

// want compares what a call returns with what it should.
func want(t *testing.T, what string, got any, e api.Errno, right any, f api.Errno) {
	t.Helper()
	if e != f || !same(got, right) {
		t.Errorf("%s: %v, error %d; want %v, error %d", what, got, e, right, f)
	}
}

// wantError compares an error.
func wantError(t *testing.T, what string, e, right api.Errno) {
	t.Helper()
	if e != right {
		t.Errorf("%s: error %d, want %d", what, e, right)
	}
}

// signs is the signs of the ways from node to node, along X, Y and Z.
func signs(p, q api.Node) [3]int {
	return [3]int{cmp.Compare(q.X, p.X), cmp.Compare(q.Y, p.Y), cmp.Compare(q.Z, p.Z)}
}

// right reports whether the geometry of a member is right.
func right(s api.Scaffold, m api.Member) bool {
	p, q := s.Nodes[m.A], s.Nodes[m.B]
	way := signs(p, q)
	switch m.Kind {
	case api.KindStandard, api.KindLadder:
		return way == [3]int{0, 0, 1}
	case api.KindBrace:
		return way[2] == 1 && way != [3]int{0, 0, 1}
	case api.KindDeck:
		return way == [3]int{1, 1, 0} && slices.Contains(s.Nodes, api.Node{X: p.X, Y: q.Y, Z: p.Z}) &&
			slices.Contains(s.Nodes, api.Node{X: q.X, Y: p.Y, Z: p.Z})
	case api.KindTie, api.KindBase:
		return way == [3]int{}
	}
	return way == [3]int{1, 0, 0} || way == [3]int{0, 1, 0}
}

// someScaffold is a scaffold with nodes at some of the crossings of coordinates, in any order.
func someScaffold(d *rand.Rand, size int, xs, ys, zs []int) api.Scaffold {
	var s api.Scaffold
	for _, x := range xs {
		for _, y := range ys {
			for _, z := range zs {
				if d.Intn(8) > 0 {
					s.Nodes = append(s.Nodes, api.Node{X: x, Y: y, Z: z})
				}
			}
		}
	}
	n := len(s.Nodes)
	d.Shuffle(n, func(i, j int) { s.Nodes[i], s.Nodes[j] = s.Nodes[j], s.Nodes[i] })
	if n == 0 {
		return s
	}
	for range size {
		kind := d.Intn(10)
		for range 30 {
			m := member(kind, d.Intn(n), d.Intn(n))
			if kind == api.KindTie || kind == api.KindBase {
				m.B = m.A
			}
			if right(s, m) && !slices.Contains(s.Members, m) {
				s.Members = append(s.Members, m)
				break
			}
		}
	}
	return s
}

// small is a scaffold of small numbers, tall one in which some ladders are too long.
func small(d *rand.Rand) api.Scaffold {
	return someScaffold(d, d.Intn(60), []int{-1, 0, 2}, []int{0, 1, 3}, []int{0, 2, 3})
}

func tall(d *rand.Rand) api.Scaffold {
	s := someScaffold(d, d.Intn(200), []int{0, 2000, 4500}, []int{0, 700}, []int{0, 2000, 6000, 8001})
	if d.Intn(4) > 0 {
		for _, n := range d.Perm(len(s.Nodes)) {
			m := member(api.KindBase, n, n)
			if s.Nodes[n].Z == 0 && !slices.Contains(s.Members, m) {
				s.Members = append(s.Members, m)
				break
			}
		}
	}
	return s
}

// number is the number of the node at a place.
func number(s api.Scaffold, x, y, z int) int {
	return slices.Index(s.Nodes, api.Node{X: x, Y: y, Z: z})
}

// ends is the nodes of a member; those of a deck are its corners, in their order.
func ends(s api.Scaffold, m api.Member) []int {
	p, q := s.Nodes[m.A], s.Nodes[m.B]
	switch m.Kind {
	case api.KindTie, api.KindBase:
		return []int{m.A}
	case api.KindDeck:
		return []int{m.A, number(s, q.X, p.Y, p.Z), m.B, number(s, p.X, q.Y, p.Z)}
	}
	return []int{m.A, m.B}
}

// has reports whether a member of one of the kinds has an end at a node.
func has(s api.Scaffold, node int, kinds ...int) bool {
	return slices.ContainsFunc(s.Members, func(m api.Member) bool {
		return slices.Contains(kinds, m.Kind) && slices.Contains(ends(s, m), node)
	})
}

// lasting is a list without its element i.
func lasting[T any](l []T, i int) []T {
	return append(slices.Clone(l[:i]), l[i+1:]...)
}

// shuffled is the same scaffold, its nodes and members in another order.
func shuffled(d *rand.Rand, s api.Scaffold) api.Scaffold {
	var out api.Scaffold
	to := d.Perm(len(s.Nodes))
	out.Nodes = make([]api.Node, len(s.Nodes))
	for i, n := range s.Nodes {
		out.Nodes[to[i]] = n
	}
	for _, i := range d.Perm(len(s.Members)) {
		m := s.Members[i]
		out.Members = append(out.Members, member(m.Kind, to[m.A], to[m.B]))
	}
	return out
}
