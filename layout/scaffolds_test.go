package layout_test

import (
	"cmp"
	"slices"
	"testing"

	"putlog/api"
	"putlog/layout"
)

// A works is a scaffold that is made place by place.
type works struct {
	nodes  map[api.Node]bool
	places map[api.Place]bool
}

func at(p api.Point, z int) api.Node { return api.Node{X: p.X, Y: p.Y, Z: z} }

// put adds a member; unless it is a brace its ends are put in order.
func (w works) put(kind int, a, b api.Node) {
	if kind != api.KindBrace && (a.X > b.X || a.Y > b.Y || a.Z > b.Z) {
		a, b = b, a
	}
	w.places[api.Place{Kind: kind, From: a, To: b}] = true
}

// run adds the run between two rows of points over levels from the ground to the top frame.
func (w works) run(inner, outer []api.Point, levels []int) {
	last := len(inner) - 1
	for i := range inner {
		for k, z := range levels {
			p, q := at(inner[i], z), at(outer[i], z)
			w.nodes[p], w.nodes[q] = true, true
			if k == 0 {
				w.put(api.KindBase, p, p)
				w.put(api.KindBase, q, q)
				continue
			}
			below := levels[k-1]
			w.put(api.KindStandard, at(inner[i], below), p)
			w.put(api.KindStandard, at(outer[i], below), q)
			w.put(api.KindTransom, p, q)
			deck := k < len(levels)-1
			if deck && (i == 0 || i == last) {
				w.put(api.KindGuardrail, p, q)
				w.put(api.KindToeBoard, p, q)
			}
			if deck && i == 0 {
				w.put(api.KindLadder, at(outer[0], below), q)
			}
			if i == last {
				continue
			}
			p2, q2 := at(inner[i+1], z), at(outer[i+1], z)
			w.put(api.KindLedger, p, p2)
			w.put(api.KindLedger, q, q2)
			if i%5 == 0 {
				w.put(api.KindBrace, at(outer[i], below), q2)
			}
			if deck {
				w.put(api.KindGuardrail, q, q2)
				w.put(api.KindToeBoard, q, q2)
				least := api.Node{X: min(p.X, q.X, p2.X), Y: min(p.Y, q.Y, p2.Y), Z: z}
				w.put(api.KindDeck, least, api.Node{X: max(p.X, q.X, p2.X), Y: max(p.Y, q.Y, p2.Y), Z: z})
			}
		}
	}
}

// scaffold numbers the nodes and orders the members.
func (w works) scaffold() api.Scaffold {
	var s api.Scaffold
	for n := range w.nodes {
		s.Nodes = append(s.Nodes, n)
	}
	slices.SortFunc(s.Nodes, func(a, b api.Node) int {
		return cmp.Or(cmp.Compare(a.X, b.X), cmp.Compare(a.Y, b.Y), cmp.Compare(a.Z, b.Z))
	})
	number := map[api.Node]int{}
	for i, n := range s.Nodes {
		number[n] = i
	}
	for p := range w.places {
		s.Members = append(s.Members, api.Member{Kind: p.Kind, A: number[p.From], B: number[p.To]})
	}
	slices.SortFunc(s.Members, func(a, b api.Member) int {
		return cmp.Or(cmp.Compare(a.Kind, b.Kind), cmp.Compare(a.A, b.A), cmp.Compare(a.B, b.B))
	})
	return s
}

// scaffoldOf is the scaffold of a layout, and its error.
func scaffoldOf(t *testing.T, b api.Building, s api.System, l api.Layout) (api.Scaffold, api.Errno) {
	decks := heights(b, s)
	levels := append(append([]int{0}, decks...), decks[len(decks)-1]+s.Lift)
	w := works{map[api.Node]bool{}, map[api.Place]bool{}}
	for i, run := range l.Runs {
		if run.Length == 0 {
			continue
		}
		r := runOf(t, b, s, i, l.Corners[i], l.Corners[(i+1)%len(l.Corners)])
		inner, outer := []api.Point{}, []api.Point{}
		gone := 0
		for _, n := range append([]int{0}, append(slices.Clone(run.Close.Bays), run.Close.Boards...)...) {
			gone += n
			p := api.Point{X: r.from.X + (r.to.X-r.from.X)*gone/r.length, Y: r.from.Y + (r.to.Y-r.from.Y)*gone/r.length}
			inner = append(inner, p)
			outer = append(outer, api.Point{X: p.X + r.outer.X - r.to.X, Y: p.Y + r.outer.Y - r.to.Y})
		}
		w.run(inner, outer, levels)
	}
	out := w.scaffold()
	if len(out.Nodes) > api.MaxNodes || len(out.Members) > api.MaxMembers {
		return api.Scaffold{}, api.ErrLarge
	}
	return out, api.OK
}

// kinds is how many members of each kind there are.
func kinds(s api.Scaffold) [10]int {
	var out [10]int
	for _, m := range s.Members {
		out[m.Kind]++
	}
	return out
}

// P3.8: the scaffold of a layout that is made by hand, counted by hand.
func TestScaffoldByHand(t *testing.T) {
	b, s := block(1400), roundSystem()
	got, e := layout.Scaffold(b, s, handLayout())
	wantError(t, "Scaffold", e, api.OK)
	// Four runs of one part, four levels. Where a run ends, the outer edge of the next one begins: 12 columns.
	if len(got.Nodes) != 48 {
		t.Errorf("%d nodes", len(got.Nodes))
	}
	want(t, "kinds", kinds(got), api.OK, [10]int{36, 24, 24, 12, 24, 24, 8, 8, 0, 12}, api.OK)
	right, _ := scaffoldOf(t, b, s, handLayout())
	want(t, "Scaffold", got, e, right, api.OK)
	// The columns ascend: (-800, -800) has the nodes 0 to 3, (-800, -300) 4 to 7, (-800, 2200) 8 to 11.
	for i, p := range points(-800, -800, -800, -300, -800, 2200, -300, -300) {
		for k := range 4 {
			want(t, "a node", got.Nodes[4*i+k], api.OK, at(p, 2000*k), api.OK)
		}
	}
	has := func(kind, a, b int) {
		if !slices.Contains(got.Members, api.Member{Kind: kind, A: a, B: b}) {
			t.Errorf("no member of kind %d from %v to %v", kind, got.Nodes[a], got.Nodes[b])
		}
	}
	// Run 3 goes from (-300, 2200) south to (-300, -300); its outer edge begins at (-800, 2200). Its braces
	// lead down the numbers.
	has(api.KindBrace, 8, 5)
	has(api.KindBrace, 10, 7)
	has(api.KindLadder, 8, 9)
	has(api.KindLadder, 9, 10)
	has(api.KindGuardrail, 5, 9)
	has(api.KindToeBoard, 6, 10)
	has(api.KindBase, 8, 8)
}

// P3.8: the scaffolds of many layouts.
func TestScaffoldOfAll(t *testing.T) {
	next := someRound(t, 1)
	fit, large := 0, 0
	for range 500 {
		r := next()
		l, _, e := layout.Best(r.b, r.s)
		if e != api.OK {
			continue
		}
		right, f := scaffoldOf(t, r.b, r.s, l)
		if f == api.OK {
			fit++
		} else {
			large++
		}
		got, e := layout.Scaffold(r.b, r.s, l)
		want(t, "Scaffold", got, e, right, f)
	}
	if fit < 100 {
		t.Errorf("%d scaffolds, %d that are too large", fit, large)
	}
}

// laid is the layout of closings in which each run has the corner where it begins.
func laid(t *testing.T, b api.Building, s api.System, bays ...[]int) api.Layout {
	t.Helper()
	var l api.Layout
	for i, c := range bays {
		start, e := layout.RunStart(b, s, i, 1)
		wantError(t, "RunStart", e, api.OK)
		l.Corners = append(l.Corners, 1)
		l.Runs = append(l.Runs, api.Run{Facade: i, Start: start, Length: sum(c), Close: api.Closing{Bays: c}})
	}
	wantError(t, "CheckLayout", layout.CheckLayout(b, s, l), api.OK)
	return l
}

// thousands is a list of lengths.
func thousands(l ...int) []int {
	for i := range l {
		l[i] *= 1000
	}
	return l
}

// P3.8: scaffolds of exactly as many nodes and members as there may be, and of one more.
func TestScaffoldLimits(t *testing.T) {
	s := api.System{Bays: thousands(1, 2, 3, 5, 7), Width: 400, Gap: 300, Lift: 1000}
	l := house(35999, thousands(0, 0, 4, 0, 4, 2, 2, 2, 2, 4, 0, 4)...)
	u := house(21000, thousands(0, 0, 6, 0, 6, 4, 4, 4, 4, 2, 2, 2, 2, 4, 0, 4)...)
	long := house(8000, thousands(0, 0, 11, 0, 11, 11, 0, 11)...)
	for _, c := range []struct {
		what           string
		b              api.Building
		closings       [][]int
		nodes, members int
		want           api.Errno
	}{
		{"4000 members", l, [][]int{thousands(3, 2), thousands(3), thousands(2), thousands(2), thousands(3), thousands(3, 2)}, 814, 4000, api.OK},
		{"one part more", l, [][]int{thousands(3, 2), thousands(3), thousands(2), thousands(2), thousands(2, 1), thousands(3, 2)}, 888, 0, api.ErrLarge},
		{"4001 members", u, [][]int{
			thousands(2, 2, 1, 1, 1), thousands(2, 2, 1), thousands(3), thousands(2), thousands(1), thousands(2), thousands(3), thousands(3, 2),
		}, 874, 4001, api.ErrLarge},
		{"one part less", u, [][]int{
			thousands(2, 2, 1, 1, 1), thousands(2, 2, 1), thousands(3), thousands(2), thousands(1), thousands(2), thousands(3), thousands(5),
		}, 828, 0, api.OK},
		{"1000 nodes", long, slices.Repeat([][]int{copies(12, 1000)}, 4), 1000, 0, api.OK},
		{"1000 nodes, ten levels", long, [][]int{copies(12, 1000), copies(12, 1000), copies(12, 1000), append([]int{2000}, copies(10, 1000)...)}, 980, 0, api.OK},
	} {
		a := laid(t, c.b, s, c.closings...)
		got, e := layout.Scaffold(c.b, s, a)
		right, f := scaffoldOf(t, c.b, s, a)
		wantError(t, c.what, f, c.want)
		want(t, c.what, got, e, right, f)
		if f == api.OK && (len(right.Nodes) != c.nodes || c.members > 0 && len(right.Members) != c.members) {
			t.Errorf("%s: %d nodes, %d members", c.what, len(right.Nodes), len(right.Members))
		}
	}
	// One deck more makes 1100 nodes.
	long.Roof = 9000
	a := laid(t, long, s, slices.Repeat([][]int{copies(12, 1000)}, 4)...)
	got, e := layout.Scaffold(long, s, a)
	want(t, "1100 nodes", got, e, api.Scaffold{}, api.ErrLarge)
	// A scaffold that would be much too large.
	far := house(40*1000, thousands(0, 0, 900, 0, 900, 900, 0, 900)...)
	a = laid(t, far, s, slices.Repeat([][]int{copies(901, 1000)}, 4)...)
	got, e = layout.Scaffold(far, s, a)
	want(t, "very many nodes", got, e, api.Scaffold{}, api.ErrLarge)
}
