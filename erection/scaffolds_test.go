package erection_test

import (
	"math"
	"slices"
	"strconv"
	"testing"

	"putlog/api"
	"putlog/erection"
	"putlog/parts"
)

// needsOf is what the members of a scaffold need.
func needsOf(t *testing.T, s api.Scaffold) [][]int {
	t.Helper()
	out := [][]int{}
	for _, x := range planOf(t, s) {
		out = append(out, x.Needs)
	}
	return out
}

// P7.1: the tasks of a small scaffold, with all that they tell.
func TestFromScaffold(t *testing.T) {
	s := theScaffold()
	s.Members = append(s.Members, members(api.KindTransom, 1, 4, api.KindBrace, 0, 2, api.KindGuardrail, 1, 2,
		api.KindToeBoard, 4, 3, api.KindLadder, 0, 1, api.KindTie, 1, 1)...)
	right := []api.Task{
		{Name: "m0", Member: 0, Place: 0, Minutes: 3},
		{Name: "m1", Member: 1, Place: 0, Minutes: 10, Needs: []int{0}},
		{Name: "m2", Member: 2, Place: 2, Minutes: 5, Needs: []int{1}},
		{Name: "m3", Member: 3, Place: 2, Minutes: 6, Needs: []int{2, 4}},
		{Name: "m4", Member: 4, Place: 2, Minutes: 5, Needs: []int{1}},
		{Name: "m5", Member: 5, Place: 0, Minutes: 5, Needs: []int{1}},
		{Name: "m6", Member: 6, Place: 2, Minutes: 4, Needs: []int{3}},
		{Name: "m7", Member: 7, Place: 2, Minutes: 4, Needs: []int{3}},
		{Name: "m8", Member: 8, Place: 0, Minutes: 8, Needs: []int{2, 4}},
		{Name: "m9", Member: 9, Place: 2, Minutes: 12, Needs: []int{1}},
	}
	for i := range right {
		right[i].Trade = "scaffolder"
	}
	l, e := erection.FromScaffold(s)
	want(t, "FromScaffold", l, e, right, api.OK)
	l, e = erection.FromScaffold(api.Scaffold{})
	want(t, "FromScaffold of nothing", l, e, []api.Task{}, api.OK)
}

// P7.1: places are whole metres of height, from 0 to 999.
func TestPlacesOfMembers(t *testing.T) {
	for _, x := range []struct{ z, place int }{
		{-1000000, 0}, {-1001, 0}, {-1000, 0}, {-1, 0}, {0, 0}, {999, 0}, {1000, 1}, {1999, 1}, {2000, 2},
		{998999, 998}, {999000, 999}, {999999, 999}, {1000000, 999},
	} {
		l := planOf(t, api.Scaffold{Nodes: nodes(5, 6, x.z), Members: members(api.KindBase, 0, 0)})
		want(t, "the place at "+strconv.Itoa(x.z), l[0].Place, api.OK, x.place, api.OK)
	}
	l := planOf(t, api.Scaffold{Nodes: nodes(0, 0, -500, 0, 0, 3500, 1, 0, 1500), Members: members(api.KindStandard, 0, 1, api.KindBrace, 2, 1)})
	want(t, "the places of tall members", []int{l[0].Place, l[1].Place}, api.OK, []int{0, 1}, api.OK)
}

// P7.1: what standards need, in a line with everything at heights around their lower nodes.
func TestNeedsOfStandards(t *testing.T) {
	s := api.Scaffold{Nodes: nodes(0, 0, 0, 0, 0, 1000, 0, 0, 2000, 0, 0, 4000, 9, 0, 0, 9, 0, 1000, 9, 0, 2000, 0, 9, 2000, 9, 0, 3000)}
	s.Members = members(
		api.KindBase, 0, 0, api.KindTie, 1, 1, api.KindBase, 2, 2, api.KindTie, 3, 3, api.KindTie, 4, 4, // 0 to 4
		api.KindStandard, 0, 1, api.KindStandard, 0, 2, api.KindStandard, 1, 2, api.KindStandard, 2, 3, // 5 to 8
		api.KindLedger, 2, 6, api.KindTransom, 2, 7, api.KindBrace, 5, 2, api.KindBrace, 2, 8, // 9 to 12
		api.KindGuardrail, 0, 4, api.KindToeBoard, 1, 5, api.KindGuardrail, 2, 6, api.KindLadder, 0, 2, // 13 to 16
	)
	for i, right := range map[int][]int{5: {0}, 6: {0}, 7: {0, 1, 5, 13}, 8: {0, 1, 2, 6, 7, 9, 10, 11, 13, 14}} {
		want(t, "the needs of standard "+strconv.Itoa(i), needsOf(t, s)[i], api.OK, right, api.OK)
	}
	// Where none ends at its lower node, it does not wait for ledgers, transoms and braces.
	s.Members[6], s.Members[7] = api.Member{Kind: api.KindLadder, A: 1, B: 2}, api.Member{Kind: api.KindStandard, A: 4, B: 5}
	want(t, "the needs of a standard upon nothing", needsOf(t, s)[8], api.OK, []int{0, 1, 2, 13, 14}, api.OK)
}

// P7.1: what ledgers, transoms and braces need: standards that end at a node, or begin where none ends.
func TestNeedsOfBars(t *testing.T) {
	for _, kind := range []int{api.KindLedger, api.KindTransom, api.KindBrace} {
		a, b := 1, 4
		if kind == api.KindBrace {
			b = 5
		}
		s := api.Scaffold{Nodes: nodes(0, 0, 0, 0, 0, 1000, 0, 0, 2000, 9, 0, 0, 9, 0, 1000, 9, 0, 2000, 9, 0, 3000)}
		s.Members = members(kind, a, b, api.KindStandard, 0, 1, api.KindStandard, 1, 2, api.KindStandard, b, 6, api.KindStandard, 0, 2)
		want(t, "the needs of a bar", needsOf(t, s)[0], api.OK, []int{1, 3}, api.OK)
		s.Members = append(s.Members, members(api.KindStandard, 3, b)...)
		want(t, "the needs of a bar between ends", needsOf(t, s)[0], api.OK, []int{1, 5}, api.OK)
		s.Members[1] = api.Member{Kind: api.KindBase, A: a, B: a}
		want(t, "the needs of a bar at a beginning", needsOf(t, s)[0], api.OK, []int{2, 5}, api.OK)
	}
}

// P7.1: what decks, rails, ladders and ties need.
func TestNeedsOfOthers(t *testing.T) {
	s := api.Scaffold{
		Nodes: nodes(0, 0, 9, 4, 0, 9, 4, 4, 9, 0, 4, 9, 2, 0, 9, 2, 4, 9, 0, 0, 0, 0, 0, 20, 4, 4, 0, 4, 4, 12),
		Members: members(
			api.KindDeck, 0, 2, api.KindDeck, 0, 5, api.KindDeck, 4, 2, // 0 to 2
			api.KindLedger, 0, 1, api.KindLedger, 0, 4, api.KindLedger, 4, 1, api.KindTransom, 0, 3, // 3 to 6
			api.KindTransom, 1, 2, api.KindTransom, 4, 5, api.KindTransom, 3, 2, api.KindLedger, 3, 5, // 7 to 10
			api.KindGuardrail, 0, 1, api.KindToeBoard, 0, 3, api.KindGuardrail, 4, 5, api.KindToeBoard, 4, 1, // 11 to 14
			api.KindStandard, 6, 0, api.KindStandard, 0, 7, api.KindStandard, 8, 2, api.KindStandard, 2, 9, // 15 to 18
			api.KindLadder, 6, 0, api.KindTie, 2, 2, api.KindTie, 4, 4, api.KindGuardrail, 3, 2, api.KindBase, 6, 6, // 19 to 23
		),
	}
	all := needsOf(t, s)
	for i, right := range map[int][]int{
		0: {3, 6, 7, 9}, 1: {4, 6, 8, 10}, 2: {5, 7, 8},
		11: {0, 16}, 12: {0, 1, 16}, 13: {1, 2}, 14: {2}, 22: {0, 18},
		19: {3, 4, 6}, 20: {17}, 21: nil, 23: nil, 15: {23},
	} {
		want(t, "the needs of member "+strconv.Itoa(i), all[i], api.OK, right, api.OK)
	}
}

// ends reports whether a standard ends at a node.
func ends(s api.Scaffold, node int) bool {
	return slices.ContainsFunc(s.Members, func(o api.Member) bool { return o.Kind == api.KindStandard && o.B == node })
}

// isCorner reports whether a node is a corner of a deck.
func isCorner(s api.Scaffold, deck api.Member, node int) bool {
	p, q, n := s.Nodes[deck.A], s.Nodes[deck.B], s.Nodes[node]
	return n.Z == p.Z && (n.X == p.X || n.X == q.X) && (n.Y == p.Y || n.Y == q.Y)
}

// isStraightBelow reports whether a node stands straight below another one.
func isStraightBelow(p, q api.Node) bool { return p.X == q.X && p.Y == q.Y && p.Z < q.Z }

// isNeeded reports whether a member needs another one, as the chapter tells it.
func isNeeded(s api.Scaffold, m, o api.Member) bool {
	isStandard := o.Kind == api.KindStandard
	isLevel := o.Kind == api.KindLedger || o.Kind == api.KindTransom
	isRail := o.Kind == api.KindGuardrail || o.Kind == api.KindToeBoard
	has := func(n int) bool { return o.A == n || o.B == n }
	switch m.Kind {
	case api.KindStandard:
		n := s.Nodes[m.A]
		if o.Kind == api.KindBase || o.Kind == api.KindTie {
			return o.A == m.A || isStraightBelow(s.Nodes[o.A], n)
		}
		return isStandard && o.B == m.A || ends(s, m.A) && (isLevel && has(m.A) || o.Kind == api.KindBrace && o.B == m.A) ||
			isRail && (isStraightBelow(s.Nodes[o.A], n) || isStraightBelow(s.Nodes[o.B], n))
	case api.KindLedger, api.KindTransom, api.KindBrace:
		return isStandard && (o.B == m.A || o.B == m.B || !ends(s, m.A) && o.A == m.A || !ends(s, m.B) && o.A == m.B)
	case api.KindDeck:
		return isLevel && isCorner(s, m, o.A) && isCorner(s, m, o.B)
	case api.KindGuardrail, api.KindToeBoard:
		return isStandard && (o.A == m.A || o.A == m.B) || o.Kind == api.KindDeck && isCorner(s, o, m.A) && isCorner(s, o, m.B)
	case api.KindLadder:
		return isLevel && has(m.B)
	case api.KindTie:
		return isStandard && o.B == m.A
	}
	return false
}

// P7.1: member against member, in scaffolds of all sorts. P7.10: their plans can be done.
func TestFromScaffoldByDefinition(t *testing.T) {
	d := dice()
	l := lattice()
	all := allMembers(l)
	needs := [10]int{}
	for range 300 {
		s := someScaffold(d, l, all)
		plan := planOf(t, s)
		for i, m := range s.Members {
			right := []int{}
			for j, o := range s.Members {
				if isNeeded(s, m, o) {
					right = append(right, j)
				}
			}
			want(t, "the needs of a member", plan[i].Needs, api.OK, right, api.OK)
			needs[m.Kind] += len(right)
		}
		wantError(t, "Check of the plan", erection.Check(plan), api.OK)
		order, e := erection.Order(plan)
		wantError(t, "Order of the plan", e, api.OK)
		place, e := erection.Accept(plan, order)
		want(t, "Accept of the order", place, e, -1, api.OK)
	}
	for kind, n := range needs[:api.KindBase] {
		if n < 200 {
			t.Errorf("only %d needs of members of kind %d", n, kind)
		}
	}
}

// P7.1: the error of FromScaffold, and the largest scaffolds.
func TestFromScaffoldErrors(t *testing.T) {
	inOrder(t, "FromScaffold", func(x input) api.Errno {
		l, e := erection.FromScaffold(x.scaffold)
		if e != api.OK {
			want(t, "FromScaffold", l, e, []api.Task{}, e)
		}
		return e
	}, scaffoldFault())
	var s api.Scaffold
	for i := range 1000 {
		s.Nodes = append(s.Nodes, api.Node{Z: 2000 * (i - 500)})
	}
	for step := 1; step <= 4; step++ {
		for i := range 1000 - step {
			s.Members = append(s.Members, api.Member{Kind: api.KindStandard, A: i, B: i + step})
		}
	}
	for i := range 10 {
		s.Members = append(s.Members, api.Member{Kind: api.KindBase, A: i, B: i})
	}
	l := planOf(t, s)
	want(t, "the last task", l[3999], api.OK, api.Task{Name: "m3999", Trade: "scaffolder", Member: 3999, Minutes: 3}, api.OK)
	wantError(t, "Check of the largest plan", erection.Check(l), api.OK)
	s.Members = append(s.Members, api.Member{Kind: api.KindTie})
	_, e := erection.FromScaffold(s)
	wantError(t, "FromScaffold of 4001 members", e, api.ErrLarge)
}

// P7.5: the members of the tasks that are done.
func TestStage(t *testing.T) {
	s, l := theScaffold(), thePlan()
	l[0].Member, l[1].Member, l[2].Member, l[3].Member = 2, -1, 0, 2
	for _, x := range []struct {
		done  []int
		right []int
	}{
		{nil, nil},
		{[]int{0}, []int{2}},
		{[]int{1}, nil},
		{[]int{2, 3}, []int{0, 2}}, // no stage
		{[]int{0, 1, 2}, []int{2, 0}},
		{[]int{0, 1, 2, 3}, []int{2, 0, 2}},
	} {
		right := api.Scaffold{Nodes: s.Nodes}
		for _, m := range x.right {
			right.Members = append(right.Members, s.Members[m])
		}
		got, e := erection.Stage(s, l, x.done)
		want(t, "Stage", got, e, right, api.OK)
	}
	got, e := erection.Stage(api.Scaffold{}, nil, nil)
	want(t, "Stage of nothing", got, e, api.Scaffold{}, api.OK)
}

// P7.5: the errors of Stage, in their order.
func TestStageErrors(t *testing.T) {
	list := append([][]fault{scaffoldFault(), planFault(), one(api.ErrMissing, func(x *input) { x.tasks[1].Member = 4 })}, doneFault()...)
	inOrder(t, "Stage", func(x input) api.Errno {
		s, e := erection.Stage(x.scaffold, x.tasks, x.done)
		if e != api.OK {
			want(t, "Stage", s, e, api.Scaffold{}, e)
		}
		return e
	}, list...)
}

// P7.5: the first loose standard. In the line are a base at 0, ties at 4000 and 6000, and a base far above.
func TestStable(t *testing.T) {
	s := api.Scaffold{Nodes: nodes(0, 0, 0, 0, 0, 2000, 0, 0, 4000, 0, 0, 6000, 0, 0, 8000, 0, 0, 12000, 7, 0, 0, 7, 0, 500, 0, 0, -1000)}
	s.Members = members(api.KindBase, 0, 0, api.KindTie, 2, 2, api.KindTie, 3, 3, api.KindBase, 5, 5,
		api.KindStandard, 0, 1, api.KindStandard, 1, 2, api.KindStandard, 2, 4, api.KindStandard, 4, 5) // 4 to 7
	for _, x := range []struct{ free, right int }{
		{0, 4}, {1999, 4}, {2000, 5}, {3999, 5}, {4000, 7}, {5999, 7}, {6000, -1}, {1000000, -1},
	} {
		n, e := erection.Stable(s, x.free)
		want(t, "Stable with "+strconv.Itoa(x.free), n, e, x.right, api.OK)
	}
	for _, m := range members(api.KindStandard, 6, 7, api.KindStandard, 8, 0) { // upon nothing, and below the base
		more := api.Scaffold{Nodes: s.Nodes, Members: append([]api.Member{m}, s.Members...)}
		n, e := erection.Stable(more, 1000000)
		want(t, "Stable with a standard that nothing holds", n, e, 0, api.OK)
	}
	n, e := erection.Stable(api.Scaffold{}, 0)
	want(t, "Stable of nothing", n, e, -1, api.OK)
}

// isLoose reports whether a standard is loose, as the chapter defines it.
func isLoose(s api.Scaffold, m api.Member, free int) bool {
	lower, upper := s.Nodes[m.A], s.Nodes[m.B]
	greatest := math.MinInt
	for _, o := range s.Members {
		if z := s.Nodes[o.A].Z; (o.Kind == api.KindBase || o.Kind == api.KindTie) && (o.A == m.A || isStraightBelow(s.Nodes[o.A], lower)) {
			greatest = max(greatest, z)
		}
	}
	return greatest == math.MinInt || upper.Z > greatest+free
}

// P7.5: standard by standard, in scaffolds of all sorts.
func TestStableByDefinition(t *testing.T) {
	d := dice()
	l := lattice()
	all := allMembers(l)
	held := 0
	for range 2000 {
		s := someScaffold(d, l, all)
		free := d.Intn(5000)
		right := slices.IndexFunc(s.Members, func(m api.Member) bool { return m.Kind == api.KindStandard && isLoose(s, m, free) })
		if right < 0 {
			held++
		}
		n, e := erection.Stable(s, free)
		want(t, "Stable", n, e, right, api.OK)
	}
	if held < 50 {
		t.Errorf("only %d scaffolds are held", held)
	}
}

// P7.5: the errors of Stable.
func TestStableErrors(t *testing.T) {
	inOrder(t, "Stable", func(x input) api.Errno {
		n, e := erection.Stable(x.scaffold, x.free)
		if e != api.OK {
			want(t, "Stable", n, e, 0, e)
		}
		return e
	}, scaffoldFault(), []fault{
		{api.ErrRange, func(x *input) { x.free = -1 }},
		{api.ErrRange, func(x *input) { x.free = 1000001 }},
		{api.ErrRange, func(x *input) { x.free = math.MinInt }},
		{api.ErrRange, func(x *input) { x.free = math.MaxInt }},
	})
}

// tower is a scaffold of so many bays and lifts, with everything: each lift's level has decks, guardrails and
// toe boards along all outer edges, and a ladder; the third line of standards is tied at each level.
func tower(bays, lifts int) api.Scaffold {
	var s api.Scaffold
	at := func(i, side, k int) int { return (k*(bays+1)+i)*2 + side }
	for k := range lifts + 1 {
		for i := range bays + 1 {
			s.Nodes = append(s.Nodes, nodes(2000*i, 0, 2000*k, 2000*i, 700, 2000*k)...)
		}
	}
	add := func(kind, a, b int) { s.Members = append(s.Members, api.Member{Kind: kind, A: a, B: b}) }
	for k := range lifts + 1 {
		for i := range bays + 1 {
			for side := range 2 {
				if k == 0 {
					add(api.KindBase, at(i, side, 0), at(i, side, 0))
					continue
				}
				add(api.KindStandard, at(i, side, k-1), at(i, side, k))
				if i < bays {
					add(api.KindGuardrail, at(i, side, k), at(i+1, side, k))
					add(api.KindToeBoard, at(i, side, k), at(i+1, side, k))
					add(api.KindLedger, at(i, side, k), at(i+1, side, k))
				}
			}
			if k == 0 {
				continue
			}
			add(api.KindTransom, at(i, 0, k), at(i, 1, k))
			if i < bays {
				add(api.KindDeck, at(i, 0, k), at(i+1, 1, k))
				add(api.KindBrace, at(i, 0, k-1), at(i+1, 0, k))
			}
			if i == 0 || i == bays {
				add(api.KindGuardrail, at(i, 0, k), at(i, 1, k))
				add(api.KindToeBoard, at(i, 0, k), at(i, 1, k))
			}
		}
		if k > 0 {
			add(api.KindLadder, at(0, 0, k-1), at(0, 0, k))
			add(api.KindTie, at(bays/2, 1, k), at(bays/2, 1, k))
		}
	}
	return s
}

// P7.1: a tower with everything is a scaffold in which nothing is missing.
func TestTower(t *testing.T) {
	s := tower(3, 3)
	free, e := parts.Free(s)
	want(t, "Free", free, e, []int{}, api.OK)
	open, e := parts.Unprotected(s, nil)
	want(t, "Unprotected", open, e, []api.Edge{}, api.OK)
	wantError(t, "Check of its plan", erection.Check(planOf(t, s)), api.OK)
}
