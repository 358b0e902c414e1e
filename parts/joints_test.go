package parts_test

import (
	"math"
	"math/rand"
	"testing"

	"putlog/api"
	"putlog/parts"
)

// theParts is the parts of the members of the chapter's scaffold.
func theParts() []int { return []int{2, 2, 2, 2, 1, 1, 1, 1, 3} }

// P4.3: Assign takes the first part that fits.
func TestAssign(t *testing.T) {
	l, e := parts.Assign(theCatalogue(), theScaffold())
	want(t, "Assign", l, e, theParts(), api.OK)
	l, e = parts.Assign(theCatalogue(), theScaffold(member(api.KindTie, 4, 4), member(api.KindLedger, 4, 5)))
	want(t, "Assign", l, e, append(theParts(), 9, 8), api.OK)
	for _, m := range []api.Member{
		member(api.KindTransom, 4, 5), // the length is that of a ledger
		member(api.KindLedger, 4, 7),
		member(api.KindLadder, 0, 4),
		member(api.KindBrace, 0, 5),
	} {
		l, e = parts.Assign(theCatalogue(), theScaffold(m))
		want(t, "Assign without a part", l, e, []int(nil), api.ErrMissing)
	}
	l, e = parts.Assign(api.Catalogue{}, theScaffold())
	want(t, "Assign without parts", l, e, []int(nil), api.ErrMissing)
	l, e = parts.Assign(api.Catalogue{}, api.Scaffold{})
	want(t, "Assign of nothing", l, e, []int(nil), api.OK)
}

// P4.3: Assign of many catalogues and scaffolds.
func TestAssignOfAll(t *testing.T) {
	d := dice()
	found := 0
	for range 2000 {
		c := someCatalogue(d)
		s := someScaffold(d, d.Intn(8), []int{0, 1}, []int{0, 1}, []int{0, 1})
		right := []int{}
		f := api.OK
		for _, m := range s.Members {
			p, q := s.Nodes[m.A], s.Nodes[m.B]
			first := -1
			for i, part := range c.Parts {
				square := (p.X-q.X)*(p.X-q.X) + (p.Y-q.Y)*(p.Y-q.Y) + (p.Z-q.Z)*(p.Z-q.Z)
				if first < 0 && part.Kind == m.Kind && part.Square == square {
					first = i
				}
			}
			if first < 0 {
				f = api.ErrMissing
			}
			right = append(right, first)
		}
		if f != api.OK {
			right = nil
		} else {
			found++
		}
		l, e := parts.Assign(c, s)
		want(t, "Assign", l, e, right, f)
	}
	if found < 200 {
		t.Errorf("%d scaffolds have their parts", found)
	}
}

// P4.3 and the chapter's example 5: bases fit at the feet of standards.
func TestJoints(t *testing.T) {
	s := theScaffold()
	l, e := parts.Joints(theCatalogue(), s, theParts())
	want(t, "Joints", l, e, []int(nil), api.OK)

	c := api.Catalogue{
		Parts: []api.Part{part("post", api.KindStandard, 4000000, 0, 0, 1, 2), part("foot", api.KindBase, 0, 0, 0, 3, 3)},
		Pairs: [][2]int{{1, 2}, {3, 1}},
	}
	s.Members = s.Members[:8]
	all := []int{1, 1, 1, 1, 0, 0, 0, 0}
	l, e = parts.Joints(c, s, all)
	want(t, "Joints of bases", l, e, []int(nil), api.OK)
	c.Pairs = c.Pairs[:1]
	l, e = parts.Joints(c, s, all)
	want(t, "Joints without the pair", l, e, []int{0, 1, 2, 3}, api.OK)
	c.Pairs = [][2]int{{1, 3}}
	l, e = parts.Joints(c, s, all)
	want(t, "Joints with the pair in the other order", l, e, []int(nil), api.OK)
	c.Pairs = [][2]int{{2, 3}}
	l, e = parts.Joints(c, s, all)
	want(t, "Joints with the wrong ends", l, e, []int{0, 1, 2, 3}, api.OK)
}

// P4.3: which ends are looked at where.
func TestJointsOfEnds(t *testing.T) {
	// Two standards above each other from node 0 over 1 to 2, and two single ones from 3 to 4 and from 5 to 6.
	s := api.Scaffold{
		Nodes:   nodes(0, 0, 0, 0, 0, 2, 0, 0, 4, 3, 0, 2, 3, 0, 4, 3, 3, 2, 3, 3, 4, 0, 3, 2, 9, 9, 9),
		Members: members(0, 0, 1, 0, 1, 2, 0, 3, 4, 0, 5, 6),
	}
	c := api.Catalogue{Parts: []api.Part{
		part("a", 0, 4, 0, 0, 1, 2), part("b", 0, 4, 0, 0, 3, 4), part("beam", 1, 9, 0, 0, 5, 6), part("deck", 6, 18, 0, 0, 7, 8),
		part("tie", 8, 0, 0, 0, 9, 10), part("base", 9, 0, 0, 0, 11, 12), part("brace", 3, 13, 0, 0, 13, 14), part("ladder", 7, 4, 0, 0, 15, 16),
	}}
	for i, x := range []struct {
		more  []api.Member
		parts []int
		pairs [][2]int
		want  []int
	}{
		// The upper end 2 or 4 of the lower one, the lower end 1 or 3 of the upper one.
		{nil, []int{0, 0, 0, 0}, [][2]int{{2, 1}}, nil},
		{nil, []int{0, 0, 0, 0}, nil, []int{1}},
		{nil, []int{0, 1, 0, 0}, [][2]int{{3, 2}}, nil},
		{nil, []int{0, 1, 0, 0}, [][2]int{{1, 4}, {1, 2}, {3, 4}, {1, 3}, {2, 4}}, []int{1}},
		{nil, []int{1, 0, 0, 0}, [][2]int{{1, 4}}, nil},
		{nil, []int{1, 0, 0, 0}, [][2]int{{2, 3}}, []int{1}},
		// A beam from 1 to 3: either of the standards is enough at node 1.
		{members(1, 1, 3), []int{0, 1, 0, 0, 2}, [][2]int{{2, 3}, {5, 3}, {6, 1}}, nil},
		{members(1, 1, 3), []int{0, 1, 0, 0, 2}, [][2]int{{2, 3}, {5, 2}, {6, 1}}, nil},
		{members(1, 1, 3), []int{0, 1, 0, 0, 2}, [][2]int{{2, 3}, {5, 1}, {5, 4}, {6, 1}}, []int{1}},
		{members(1, 1, 3), []int{0, 1, 0, 0, 2}, [][2]int{{2, 3}, {5, 3}, {6, 2}}, []int{3}},
		{members(1, 1, 3), []int{0, 1, 0, 0, 2}, [][2]int{{2, 3}, {6, 3}, {5, 1}}, []int{1, 3}},
		// A deck from 1 to 5, over 3 and 7: Ends[1] at 5 alone, and there is no standard at 7.
		{members(6, 1, 5), []int{0, 0, 0, 0, 3}, [][2]int{{2, 1}, {7, 1}, {8, 1}}, []int{7}},
		{members(6, 1, 5), []int{0, 0, 0, 0, 3}, [][2]int{{2, 1}, {7, 1}}, []int{5, 7}},
		{members(6, 1, 5), []int{0, 0, 0, 0, 3}, [][2]int{{2, 1}, {8, 1}}, []int{1, 3, 7}},
		// Ties and bases have one end, braces and ladders two.
		{members(8, 3, 3), []int{0, 0, 0, 0, 4}, [][2]int{{2, 1}, {9, 1}}, nil},
		{members(8, 3, 3), []int{0, 0, 0, 0, 4}, [][2]int{{2, 1}, {10, 1}}, []int{3}},
		{members(9, 4, 4), []int{0, 0, 0, 0, 5}, [][2]int{{2, 1}, {11, 2}}, nil},
		{members(9, 4, 4), []int{0, 0, 0, 0, 5}, [][2]int{{2, 1}, {12, 2}, {11, 1}}, []int{4}},
		{members(9, 8, 8), []int{0, 0, 0, 0, 5}, [][2]int{{2, 1}, {11, 2}, {11, 11}}, []int{8}},
		{members(3, 0, 3), []int{0, 0, 0, 0, 6}, [][2]int{{2, 1}, {13, 1}, {14, 1}}, nil},
		{members(3, 0, 3), []int{0, 0, 0, 0, 6}, [][2]int{{2, 1}, {13, 1}}, []int{3}},
		{members(7, 3, 4), []int{0, 0, 0, 0, 7}, [][2]int{{2, 1}, {15, 1}, {16, 2}}, nil},
		{members(7, 3, 4), []int{0, 0, 0, 0, 7}, [][2]int{{2, 1}, {15, 2}, {16, 1}}, []int{3, 4}},
		// Two others at a node may join each other, which is not asked for.
		{members(8, 8, 8, 9, 8, 8), []int{0, 0, 0, 0, 4, 5}, [][2]int{{2, 1}, {9, 11}, {10, 12}}, []int{8}},
	} {
		s, c := s, c
		s.Members = append(s.Members, x.more...)
		c.Pairs = x.pairs
		l, e := parts.Joints(c, s, x.parts)
		if e != api.OK || !same(l, x.want) {
			t.Errorf("Joints %d: %v, error %d; want %v", i, l, e, x.want)
		}
	}
}

// P4.3: the errors of Joints, and their order.
func TestJointsErrors(t *testing.T) {
	c, s := theCatalogue(), theScaffold()
	for _, x := range []struct {
		parts []int
		e     api.Errno
	}{
		{theParts()[:8], api.ErrShape},
		{append(theParts(), 3), api.ErrShape},
		{nil, api.ErrShape},
		{[]int{-1}, api.ErrShape},
		{[]int{2, 2, 2, 2, 1, 1, 1, 1, 10}, api.ErrMissing},
		{[]int{2, 2, -1, 2, 1, 1, 1, 1, 3}, api.ErrMissing},
		{[]int{2, math.MaxInt, 2, 2, 1, 1, 1, 1, 3}, api.ErrMissing},
		{[]int{2, math.MinInt, 2, 2, 1, 1, 1, 1, 3}, api.ErrMissing},
		{[]int{2, 2, 2, 2, 1, 1, 1, 1, 2}, api.ErrForm},
		{[]int{9, 2, 2, 2, 1, 1, 1, 1, 3}, api.ErrForm},
		{[]int{2, 2, 2, 2, 8, 1, 1, 1, 3}, api.ErrForm},
		{[]int{2, 2, 2, 2, 8, 1, 1, 1, 10}, api.ErrForm},
		{[]int{2, 2, 2, 10, 8, 1, 1, 1, 3}, api.ErrMissing},
		{[]int{2, 2, 2, 2, 0, 1, 1, 1, 3}, api.OK}, // another length is not asked for
	} {
		l, e := parts.Joints(c, s, x.parts)
		want(t, "Joints", l, e, []int(nil), x.e)
	}
	l, e := parts.Joints(api.Catalogue{}, api.Scaffold{Nodes: nodes(0, 0, 0)}, nil)
	want(t, "Joints of nodes", l, e, []int(nil), api.OK)
}

// misfits is the nodes at which a member does not fit.
func misfits(c api.Catalogue, s api.Scaffold, parts []int) []int {
	var out []int
	for n := range s.Nodes {
		fits := true
		for i, m := range s.Members {
			for k, at := range ends(s, m) {
				if at != n {
					continue
				}
				kinds := c.Parts[parts[i]].Ends
				own := kinds[0]
				if m.Kind == api.KindDeck && k == 2 || m.Kind != api.KindDeck && k == 1 {
					own = kinds[1]
				}
				some, all := false, true
				for j, o := range s.Members {
					if o.Kind != api.KindStandard || o.A != n && o.B != n {
						continue
					}
					other := c.Parts[parts[j]].Ends[0]
					if o.B == n {
						other = c.Parts[parts[j]].Ends[1]
					}
					if joined(c, own, other) {
						some = true
					} else if (m.A == n) != (o.A == n) {
						all = false // one of them ends here, the other one begins
					}
				}
				if m.Kind == api.KindStandard {
					fits = fits && all
				} else {
					fits = fits && some
				}
			}
		}
		if !fits {
			out = append(out, n)
		}
	}
	return out
}

// someParts is parts of the members' kinds.
func someParts(t *testing.T, d *rand.Rand, c api.Catalogue, s api.Scaffold) []int {
	t.Helper()
	var out []int
	for _, m := range s.Members {
		var l []int
		for i, p := range c.Parts {
			if p.Kind == m.Kind {
				l = append(l, i)
			}
		}
		out = append(out, l[d.Intn(len(l))])
	}
	return out
}

// P4.3: Joints of many scaffolds.
func TestJointsOfAll(t *testing.T) {
	d := dice()
	some, all := 0, 0
	for range 500 {
		c, s := someCatalogue(d), small(d)
		l := someParts(t, d, c, s)
		right := misfits(c, s, l)
		some, all = some+len(right), all+len(s.Nodes)
		got, e := parts.Joints(c, s, l)
		want(t, "Joints", got, e, right, api.OK)
	}
	if some < all/5 || some > all*4/5 {
		t.Errorf("%d of %d nodes do not fit", some, all)
	}
}

// P4.3: very many standards and ladders meet at the node 500.
func TestJointsOfMany(t *testing.T) {
	s := column(1000, 0)
	var l []int
	for n := range 1000 {
		if n != 500 {
			s.Members = append(s.Members, member(api.KindStandard, min(n, 500), max(n, 500)), member(api.KindLadder, min(n, 500), max(n, 500)))
			l = append(l, 0, 1)
		}
	}
	c := api.Catalogue{
		Parts: []api.Part{part("a", 0, 1, 0, 0, 1, 2), part("b", 7, 1, 0, 0, 3, 4)},
		Pairs: append(make([][2]int, 197), [2]int{1, 2}, [2]int{3, 1}, [2]int{2, 4}),
	}
	got, e := parts.Joints(c, s, l)
	want(t, "Joints", got, e, []int(nil), api.OK)
	l[0], c.Parts = 2, append(c.Parts, part("c", 0, 1, 0, 0, 1, 5))
	got, e = parts.Joints(c, s, l)
	want(t, "Joints with one other", got, e, []int{500}, api.OK)
}
