package parts_test

import (
	"math"
	"math/big"
	"slices"
	"strconv"
	"testing"

	"putlog/api"
	"putlog/parts"
)

// P4.4 and the chapter's example 4: members that meet boxes.
func TestBlocked(t *testing.T) {
	s := theScaffold(member(api.KindTie, 4, 4), member(api.KindBrace, 0, 5), member(api.KindLedger, 4, 5), member(api.KindLadder, 3, 7))
	for i, c := range []struct {
		boxes []api.Box
		want  []int
	}{
		{nil, nil},
		{[]api.Box{box(900, 300, 1900, 1100, 400, 2100)}, []int{8}},
		{[]api.Box{box(0, 0, 500, 100, 100, 600)}, nil}, // the standard runs along its edge
		{[]api.Box{box(-1, -1, 500, 100, 100, 600)}, []int{4}},
		{[]api.Box{box(-1, 0, 500, 100, 100, 600)}, nil},
		{[]api.Box{box(-1, -1, -1, 1, 1, 1)}, []int{0, 4, 10}},
		{[]api.Box{box(-1, -1, 0, 1, 1, 1)}, []int{4, 10}},
		{[]api.Box{box(-1, -1, 1999, 1, 1, 2001)}, []int{4, 8, 9, 11}},
		{[]api.Box{box(-1, -1, 2000, 1, 1, 2001)}, nil},
		{[]api.Box{box(-9, -9, 1999, 1, 1, 2000)}, []int{4}},
		{[]api.Box{box(500, 0, 1999, 600, 1, 2001)}, []int{8}},
		{[]api.Box{box(500, -1, 1999, 600, 0, 2001)}, nil},
		{[]api.Box{box(500, -1, 1999, 600, 1, 2001)}, []int{8, 11}},
		{[]api.Box{box(900, -5, 900, 1000, 5, 1000)}, []int{10}},
		{[]api.Box{box(900, -5, 1000, 1000, 5, 1100)}, nil}, // the brace touches an edge
		{[]api.Box{box(900, -5, 999, 1000, 5, 1100)}, []int{10}},
		{[]api.Box{box(1999, 699, -1, 2001, 701, 1), box(-1, 699, 1, 1, 701, 2)}, []int{2, 6, 7, 12}},
		{[]api.Box{box(500, 100, 1999, 501, 101, 2001), box(600, 100, 1999, 601, 101, 2001)}, []int{8}},
		{[]api.Box{box(-1000000, -1000000, -1000000, 1000000, 1000000, 1000000)}, []int{0, 1, 2, 3, 4, 5, 6, 7, 8, 9, 10, 11, 12}},
		{[]api.Box{box(2000, 0, 0, 2001, 700, 2000)}, nil},
	} {
		l, e := parts.Blocked(s, c.boxes)
		want(t, "Blocked "+strconv.Itoa(i), l, e, c.want, api.OK)
	}
}

// P4.4: boxes that are refused.
func TestBlockedErrors(t *testing.T) {
	s := theScaffold()
	good := box(900, 300, 1900, 1100, 400, 2100)
	l, e := parts.Blocked(s, slices.Repeat([]api.Box{good}, 50))
	want(t, "50 boxes", l, e, []int{8}, api.OK)
	const far = 1000001
	for i, c := range []struct {
		boxes []api.Box
		e     api.Errno
	}{
		{slices.Repeat([]api.Box{good}, 51), api.ErrLarge},
		{make([]api.Box, 51), api.ErrLarge},
		{[]api.Box{good, box(-far, 0, 0, 1, 1, 1)}, api.ErrRange},
		{[]api.Box{good, box(0, -far, 0, 1, 1, 1)}, api.ErrRange},
		{[]api.Box{good, box(0, 0, -far, 1, 1, 1)}, api.ErrRange},
		{[]api.Box{good, box(0, 0, 0, far, 1, 1)}, api.ErrRange},
		{[]api.Box{good, box(0, 0, 0, 1, far, 1)}, api.ErrRange},
		{[]api.Box{good, box(0, 0, 0, 1, 1, far)}, api.ErrRange},
		{[]api.Box{good, box(0, 0, 0, 0, 0, math.MinInt)}, api.ErrRange},
		{[]api.Box{good, box(1, 0, 0, 1, 1, 1)}, api.ErrForm},
		{[]api.Box{good, box(2, 0, 0, 1, 1, 1)}, api.ErrForm},
		{[]api.Box{good, box(0, 1, 0, 1, 1, 1)}, api.ErrForm},
		{[]api.Box{good, box(0, 2, 0, 1, 1, 1)}, api.ErrForm},
		{[]api.Box{good, box(0, 0, 1, 1, 1, 1)}, api.ErrForm},
		{[]api.Box{good, box(0, 0, 2, 1, 1, 1)}, api.ErrForm},
		{[]api.Box{{}, box(0, 0, 0, 1, 1, far)}, api.ErrForm},
		{[]api.Box{box(0, 0, 0, 1, 1, far), {}}, api.ErrRange},
	} {
		l, e := parts.Blocked(s, c.boxes)
		want(t, "boxes "+strconv.Itoa(i), l, e, []int(nil), c.e)
	}
	l, e = parts.Blocked(api.Scaffold{}, []api.Box{{}})
	want(t, "a box of a scaffold without members", l, e, []int(nil), api.ErrForm)
}

// inside reports whether a point lies within a box, but not on its surface.
func inside(x api.Box, p [3]*big.Rat) bool {
	low, high := [3]int{x.X1, x.Y1, x.Z1}, [3]int{x.X2, x.Y2, x.Z2}
	for i := range p {
		if p[i].Cmp(big.NewRat(int64(low[i]), 1)) <= 0 || p[i].Cmp(big.NewRat(int64(high[i]), 1)) >= 0 {
			return false
		}
	}
	return true
}

// between is the point from p to q at the shares along X, Y and Z.
func between(p, q api.Node, shares [3]*big.Rat) [3]*big.Rat {
	from, to := [3]int{p.X, p.Y, p.Z}, [3]int{q.X, q.Y, q.Z}
	var out [3]*big.Rat
	for i := range out {
		out[i] = big.NewRat(int64(to[i]-from[i]), 1)
		out[i].Mul(out[i], shares[i]).Add(out[i], big.NewRat(int64(from[i]), 1))
	}
	return out
}

// steps is shares by 1/120. Where the coordinates of two nodes differ by at most 6, one of them lies between
// any two places at which the line between the nodes passes whole numbers.
func steps() []*big.Rat {
	var out []*big.Rat
	for i := range int64(121) {
		out = append(out, big.NewRat(i, 120))
	}
	return out
}

// meets reports whether one of many points of a member lies within a box.
func meets(s api.Scaffold, m api.Member, x api.Box, shares []*big.Rat) bool {
	p, q := s.Nodes[m.A], s.Nodes[m.B]
	for _, a := range shares {
		if m.Kind != api.KindDeck {
			if inside(x, between(p, q, [3]*big.Rat{a, a, a})) {
				return true
			}
			continue
		}
		for _, b := range shares {
			if inside(x, between(p, q, [3]*big.Rat{a, b, b})) {
				return true
			}
		}
	}
	return false
}

// P4.4: Blocked of many scaffolds.
func TestBlockedOfAll(t *testing.T) {
	d := dice()
	coarse := []*big.Rat{}
	for i, share := range steps() {
		if i%10 == 0 {
			coarse = append(coarse, share) // enough for decks, whose axes are looked at apart
		}
	}
	yes, no := 0, 0
	for range 100 {
		s := someScaffold(d, 20, []int{-1, 0, 3}, []int{0, 1, 5}, []int{0, 2, 3})
		x := box(d.Intn(6)-2, d.Intn(8)-2, d.Intn(5)-1, 0, 0, 0)
		x.X2, x.Y2, x.Z2 = x.X1+1+d.Intn(5), x.Y1+1+d.Intn(5), x.Z1+1+d.Intn(4)
		var right []int
		for i, m := range s.Members {
			shares := steps()
			if m.Kind == api.KindDeck {
				shares = coarse
			}
			if meets(s, m, x, shares) {
				right = append(right, i)
			}
		}
		yes, no = yes+len(right), no+len(s.Members)-len(right)
		l, e := parts.Blocked(s, []api.Box{x})
		want(t, "Blocked", l, e, right, api.OK)
		beside := box(50, 50, 50, 51, 51, 51)
		l, e = parts.Blocked(s, []api.Box{beside, x, beside})
		want(t, "Blocked by one of three", l, e, right, api.OK)
	}
	if yes < 50 || no < 50 {
		t.Errorf("%d members meet their boxes, %d do not", yes, no)
	}
}
