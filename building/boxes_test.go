package building_test

import (
	"math"
	"testing"

	"putlog/api"
	"putlog/building"
)

// A badBox is a box with its error.
type badBox struct {
	x api.Box
	e api.Errno
}

// badBoxes are boxes with the errors of P2.3.
func badBoxes() []badBox {
	const far = api.MaxPoint
	out := []badBox{
		{api.Box{}, api.ErrForm},
		{box(0, 0, 0, 0, 1, 1), api.ErrForm},
		{box(0, 0, 0, 1, 0, 1), api.ErrForm},
		{box(0, 0, 0, 1, 1, 0), api.ErrForm},
		{box(1, 0, 0, 0, 1, 1), api.ErrForm},
		{box(0, 1, 0, 1, 0, 1), api.ErrForm},
		{box(0, 0, 1, 1, 1, 0), api.ErrForm},
		{box(0, 0, 5, 0, 0, far+1), api.ErrRange},
	}
	for _, n := range []int{far + 1, -far - 1, math.MaxInt, math.MinInt} {
		for i := range 6 {
			l := [6]int{0, 0, 0, 1, 1, 1}
			l[i] = n
			out = append(out, badBox{box(l[0], l[1], l[2], l[3], l[4], l[5]), api.ErrRange})
		}
	}
	return out
}

// P2.3: CheckBox, and the errors of the functions with boxes: of the first, then of the second one.
func TestCheckBox(t *testing.T) {
	const far = api.MaxPoint
	good := box(-1, -2, -3, 1, 2, 3)
	for _, x := range []api.Box{good, box(0, 0, 0, 1, 1, 1), box(-far, -far, -far, far, far, far)} {
		wantError(t, "CheckBox", building.CheckBox(x), api.OK)
	}
	nowhere := api.Node{X: far + 1}
	for _, bad := range badBoxes() {
		other := api.Box{X1: far + 1}
		if bad.e == api.ErrRange {
			other = api.Box{}
		}
		wantError(t, "CheckBox", building.CheckBox(bad.x), bad.e)
		for _, two := range [][2]api.Box{{bad.x, good}, {good, bad.x}, {bad.x, other}} {
			is, e := building.Overlap(two[0], two[1])
			want(t, "Overlap", is, e, false, bad.e)
			x, e := building.Common(two[0], two[1])
			want(t, "Common", x, e, api.Box{}, bad.e)
		}
		is, e := building.Pierces(bad.x, nowhere, nowhere)
		want(t, "Pierces", is, e, false, bad.e)
	}
}

// P2.3: Overlap and Common of boxes at each other.
func TestOverlapAndCommon(t *testing.T) {
	x := box(0, 0, 0, 10, 10, 10)
	for _, c := range []struct{ y, both api.Box }{
		{x, x},
		{box(9, 9, 9, 20, 20, 20), box(9, 9, 9, 10, 10, 10)},
		{box(-5, -5, -5, 1, 1, 1), box(0, 0, 0, 1, 1, 1)},
		{box(2, 3, 4, 5, 6, 7), box(2, 3, 4, 5, 6, 7)},
		{box(-5, 3, 4, 50, 6, 7), box(0, 3, 4, 10, 6, 7)},
		{box(10, 0, 0, 20, 10, 10), api.Box{}},
		{box(0, 10, 0, 10, 20, 10), api.Box{}},
		{box(0, 0, 10, 10, 10, 20), api.Box{}},
		{box(-9, 0, 0, 0, 10, 10), api.Box{}},
		{box(10, 10, 10, 11, 11, 11), api.Box{}},
		{box(50, 50, 50, 51, 51, 51), api.Box{}},
	} {
		for _, two := range [][2]api.Box{{x, c.y}, {c.y, x}} {
			right := api.OK
			if c.both == (api.Box{}) {
				right = api.ErrNone
			}
			is, e := building.Overlap(two[0], two[1])
			want(t, "Overlap", is, e, right == api.OK, api.OK)
			both, e := building.Common(two[0], two[1])
			want(t, "Common", both, e, c.both, right)
		}
	}
}

// P2.3: Overlap and Common by the unit cubes of small boxes.
func TestBoxesByCubes(t *testing.T) {
	d := dice()
	in := func(x api.Box, a, b, c int) bool {
		return x.X1 <= a && a < x.X2 && x.Y1 <= b && b < x.Y2 && x.Z1 <= c && c < x.Z2
	}
	for range 1000 {
		x, y := someBox(d, 5), someBox(d, 5)
		both, e := building.Common(x, y)
		n := 0
		for i := range 20 * 20 * 20 {
			a, b, c := i%20-4, i/20%20-4, i/400-4
			common := in(x, a, b, c) && in(y, a, b, c)
			if common {
				n++
			}
			if common != in(both, a, b, c) {
				t.Fatalf("Common of %v and %v: %v", x, y, both)
			}
		}
		wantError(t, "Common", e, map[bool]api.Errno{true: api.OK, false: api.ErrNone}[n > 0])
		is, e := building.Overlap(x, y)
		want(t, "Overlap", is, e, n > 0, api.OK)
	}
}

// P2.3: Pierces: the chapter's example, points, ends at the sides, and the errors of the ends.
func TestPierces(t *testing.T) {
	const far = api.MaxPoint
	x := box(0, 0, 0, 10, 10, 10)
	for _, c := range []struct {
		a, b api.Node
		want bool
	}{
		{node(-5, 5, 5), node(5, 5, 5), true},
		{node(0, 0, 0), node(10, 0, 0), false},
		{node(0, 0, 0), node(10, 10, 0), false},
		{node(0, 0, 0), node(10, 10, 10), true},
		{node(0, 0, 0), node(10, 10, 1), true},
		{node(5, 5, 5), node(5, 5, 5), true},
		{node(5, 5, 0), node(5, 5, 0), false},
		{node(5, 5, 20), node(5, 5, 20), false},
		{node(5, 5, 0), node(5, 5, -9), false},
		{node(5, 5, 0), node(5, 5, 1), true},
		{node(5, 5, 1), node(5, 5, 0), true},
		{node(1, 1, 1), node(9, 9, 9), true},
		{node(-1, 5, 5), node(0, 5, 5), false},
		{node(-1, 5, 5), node(1, 5, 5), true},
		{node(-5, 5, 5), node(5, -5, 5), false}, // through the edge
		{node(-5, 6, 5), node(6, -5, 5), true},
		{node(-far, -far, -far), node(far, far, far), true},
		{node(-far, -far, 10-far), node(far-10, far-10, far), false}, // along the top
		{node(far, 9, 1), node(-far, 1, 9), true},
		{node(far, 11, 5), node(-far, 9, 5), false}, // at the beginning it is at 10
		{node(20, 11, 5), node(0, 9, 5), true},
		{node(0, 11, 5), node(20, 9, 5), false},
		{node(20, 10, 5), node(0, 9, 5), true},
	} {
		is, e := building.Pierces(x, c.a, c.b)
		want(t, "Pierces", is, e, c.want, api.OK)
		is, e = building.Pierces(x, c.b, c.a)
		want(t, "Pierces backwards", is, e, c.want, api.OK)
	}
	for _, n := range []int{far + 1, -far - 1, math.MaxInt, math.MinInt} {
		for _, p := range []api.Node{{X: n}, {Y: n}, {Z: n}} {
			is, e := building.Pierces(x, p, node(5, 5, 5))
			want(t, "Pierces from out of range", is, e, false, api.ErrRange)
			is, e = building.Pierces(x, node(5, 5, 5), p)
			want(t, "Pierces to out of range", is, e, false, api.ErrRange)
		}
	}
}

// P2.3: Pierces by points of the line: its numbers pass the sides of the box at multiples of 1/840, so
// that the multiples of 1/1680 lie on all parts of it.
func TestPiercesByPoints(t *testing.T) {
	d := dice()
	end := func() api.Node { return node(d.Intn(9)-4, d.Intn(9)-4, d.Intn(9)-4) }
	found := 0
	for range 3000 {
		x := box(d.Intn(5)-3, d.Intn(5)-3, d.Intn(5)-3, 2, 2, 2)
		a, b := end(), end()
		right := false
		for k := range 1681 {
			at := func(a, b int) int { return a*1680 + (b-a)*k }
			between := func(low, n, high int) bool { return low*1680 < n && n < high*1680 }
			right = right || between(x.X1, at(a.X, b.X), x.X2) && between(x.Y1, at(a.Y, b.Y), x.Y2) && between(x.Z1, at(a.Z, b.Z), x.Z2)
		}
		if right {
			found++
		}
		is, e := building.Pierces(x, a, b)
		if is != right || e != api.OK {
			t.Errorf("Pierces %v from %v to %v: %v, error %d", x, a, b, is, e)
		}
	}
	if found < 300 || found > 2700 {
		t.Errorf("%d lines pierce", found)
	}
}
