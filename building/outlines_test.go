package building_test

import (
	"math"
	"slices"
	"testing"

	"putlog/api"
	"putlog/building"
)

// A badOutline is an outline with its error.
type badOutline struct {
	what string
	l    []api.Point
	e    api.Errno
}

// badOutlines are outlines with the errors of P2.1.
func badOutlines() []badOutline {
	const far = api.MaxPoint + 1
	return []badOutline{
		{"nothing", nil, api.ErrShape},
		{"an empty list", points(), api.ErrShape},
		{"three corners", points(0, 0, 4, 0, 4, 4), api.ErrShape},
		{"three corners out of range", points(0, 0, far, 0, 4, 4), api.ErrShape},
		{"44 corners", comb(11), api.ErrShape},
		{"X above the range", rectangle(0, 0, far, 4), api.ErrRange},
		{"X below the range", rectangle(-far, 0, 4, 4), api.ErrRange},
		{"Y above the range", rectangle(0, 0, 4, far), api.ErrRange},
		{"Y below the range", rectangle(0, -far, 4, 4), api.ErrRange},
		{"the least int", rectangle(math.MinInt, 0, 4, 4), api.ErrRange},
		{"the greatest int", rectangle(0, 0, 4, math.MaxInt), api.ErrRange},
		{"the last corner out of range, the first side slanting", points(0, 0, 4, 1, 4, 4, 0, far), api.ErrRange},
		{"a slanting side", points(0, 0, 4, 1, 4, 4, 0, 4), api.ErrForm},
		{"a slanting last side", points(0, 0, 4, 0, 4, 4, 1, 4), api.ErrForm},
		{"a side without length", points(0, 0, 4, 0, 4, 0, 4, 4, 0, 4), api.ErrForm},
		{"two sides without length", points(0, 0, 4, 0, 4, 0, 4, 0, 4, 4, 0, 4), api.ErrForm},
		{"one point", points(1, 1, 1, 1, 1, 1, 1, 1), api.ErrForm},
		{"a side in the direction of the one before", points(0, 0, 2, 0, 4, 0, 4, 4, 0, 4), api.ErrForm},
		{"side 0 in the direction of the last one", points(2, 0, 4, 0, 4, 4, 0, 4, 0, 0), api.ErrForm},
		{"a side in the opposite direction", points(0, 0, 6, 0, 4, 0, 4, 4, 0, 4), api.ErrForm},
		{"side 0 in the opposite direction of the last one", points(-2, 0, 4, 0, 4, 4, 0, 4, 0, 0), api.ErrForm},
		{"back and forth", points(0, 0, 4, 0, 0, 0, 4, 0), api.ErrForm},
		{"a last side that is slanting, and sides that cross", points(0, 0, 4, 0, 4, 4, 2, 4, 2, -2, 1, -2), api.ErrForm},
		{"sides that cross", points(0, 0, 4, 0, 4, 4, 2, 4, 2, -2, 0, -2), api.ErrClash},
		{"a corner on a side", points(0, 0, 6, 0, 6, 4, 4, 4, 4, 0, 2, 0, 2, 4, 0, 4), api.ErrClash},
		{"a corner that touches a side", points(0, 0, 6, 0, 6, 6, 4, 6, 4, 4, 2, 4, 2, 0, 1, 0, 1, 6, 0, 6), api.ErrClash},
		{"two corners at one place", points(0, 0, 2, 0, 2, 2, 4, 2, 4, 4, 2, 4, 2, 2, 0, 2), api.ErrClash},
		{"a rectangle that is gone round twice", append(rectangle(0, 0, 4, 4), rectangle(0, 0, 4, 4)...), api.ErrClash},
		{"sides on one line that overlap", points(0, 0, 8, 0, 8, 2, 2, 2, 2, 4, 6, 4, 6, 2, 4, 2, 4, 6, 0, 6), api.ErrClash},
		{"a clockwise figure of eight", points(0, 0, 0, 4, 4, 4, 4, 2, -2, 2, -2, 0), api.ErrClash},
		{"clockwise", points(0, 0, 0, 4, 4, 4, 4, 0), api.ErrOrder},
		{"a clockwise L", reversed(theL()), api.ErrOrder},
		{"a clockwise comb", reversed(comb(10)), api.ErrOrder},
	}
}

// reversed is an outline that is gone round the other way.
func reversed(l []api.Point) []api.Point {
	slices.Reverse(l)
	return l
}

// P2.1: the errors of outlines, also of the functions with an outline (P2.2).
func TestCheckOutline(t *testing.T) {
	for _, x := range badOutlines() {
		wantError(t, x.what, building.CheckOutline(x.l), x.e)
		area, e := building.Area(x.l)
		want(t, "Area of "+x.what, area, e, 0, x.e)
		walls, e := building.Walls(x.l)
		want(t, "Walls of "+x.what, walls, e, []api.Wall{}, x.e)
		corners, e := building.Corners(x.l)
		want(t, "Corners of "+x.what, corners, e, []int{}, x.e)
		where, e := building.Where(x.l, api.Point{X: math.MaxInt})
		want(t, "Where of "+x.what, where, e, 0, x.e)
		distance, e := building.Distance(x.l, api.Point{X: math.MaxInt})
		want(t, "Distance of "+x.what, distance, e, 0, x.e)
		offset, e := building.Offset(x.l, -1)
		want(t, "Offset of "+x.what, offset, e, []api.Point{}, x.e)
		covers, e := building.Covers(x.l, nil)
		want(t, "Covers by "+x.what, covers, e, false, x.e)
		covers, e = building.Covers(theL(), x.l)
		want(t, "Covers of "+x.what, covers, e, false, x.e)
	}
	const far = api.MaxPoint
	for _, l := range [][]api.Point{theL(), comb(10), rectangle(-far, -far, far, far), rectangle(0, 0, 1, 1)} {
		wantError(t, "a valid outline", building.CheckOutline(l), api.OK)
	}
	if len(comb(10)) != api.MaxCorners {
		t.Errorf("the comb has %d corners", len(comb(10)))
	}
}

// P2.1: outlines of shapes are valid, whichever corner is the first, and clockwise they are not.
func TestCheckOutlineOfShapes(t *testing.T) {
	d := dice()
	for range 500 {
		s, l := someShape(d, 1+d.Intn(6), 1+d.Intn(6), 20)
		wantError(t, "a shape", building.CheckOutline(l), api.OK)
		area, e := building.Area(l)
		want(t, "Area", area, e, s.area(), api.OK)
		wantError(t, "a clockwise shape", building.CheckOutline(reversed(slices.Clone(l))), api.ErrOrder)
	}
}

// P2.1: any corners: the errors by their definitions.
func TestCheckOutlineOfAnyCorners(t *testing.T) {
	d := dice()
	found := map[api.Errno]int{}
	for range 200000 {
		l := points(d.Intn(5), d.Intn(5))
		for range 3 + 2*d.Intn(4) {
			p := l[len(l)-1]
			if (len(l)%2 == 0) == (d.Intn(20) == 0) { // seldom a wrong turn
				p.X = d.Intn(5)
			} else {
				p.Y = d.Intn(5)
			}
			l = append(l, p)
		}
		if d.Intn(4) > 0 {
			l[len(l)-1].Y = l[0].Y
		}
		right := plainError(l)
		found[right]++
		if e := building.CheckOutline(l); e != right {
			t.Fatalf("%v: error %d, want %d", l, e, right)
		}
	}
	for _, e := range []api.Errno{api.OK, api.ErrForm, api.ErrClash, api.ErrOrder} {
		if found[e] < 100 {
			t.Errorf("error %d is tried %d times", e, found[e])
		}
	}
}

// plainError is the error of an outline of small numbers: it goes through all points of the sides.
func plainError(l []api.Point) api.Errno {
	var ways [][2]int
	for i, p := range l {
		q := l[(i+1)%len(l)]
		if (p.X == q.X) == (p.Y == q.Y) {
			return api.ErrForm
		}
		ways = append(ways, [2]int{sign(q.X - p.X), sign(q.Y - p.Y)})
	}
	for i, w := range ways {
		v := ways[(i+len(l)-1)%len(l)]
		if w == v || w == [2]int{-v[0], -v[1]} {
			return api.ErrForm
		}
	}
	visits := map[api.Point]int{}
	for i, p := range l {
		for q := l[(i+1)%len(l)]; p != q; p.X, p.Y = p.X+ways[i][0], p.Y+ways[i][1] {
			if visits[p]++; visits[p] > 1 {
				return api.ErrClash
			}
		}
	}
	turns := 0
	for i, w := range ways {
		v := ways[(i+len(l)-1)%len(l)]
		turns += v[0]*w[1] - v[1]*w[0]
	}
	if turns < 0 {
		return api.ErrOrder
	}
	return api.OK
}

func sign(n int) int {
	switch {
	case n < 0:
		return -1
	case n > 0:
		return 1
	}
	return 0
}

// P2.1: the chapter's example.
func TestTheL(t *testing.T) {
	l := theL()
	area, e := building.Area(l)
	want(t, "Area", area, e, 12000000, api.OK)
	corners, e := building.Corners(l)
	want(t, "Corners", corners, e, []int{1, 1, 1, -1, 1, 1}, api.OK)
	walls, e := building.Walls(l)
	want(t, "Walls", walls, e, []api.Wall{
		{From: l[0], To: l[1], Length: 4000, Dir: 0},
		{From: l[1], To: l[2], Length: 2000, Dir: 1},
		{From: l[2], To: l[3], Length: 2000, Dir: 2},
		{From: l[3], To: l[4], Length: 2000, Dir: 1},
		{From: l[4], To: l[5], Length: 2000, Dir: 2},
		{From: l[5], To: l[0], Length: 4000, Dir: 3},
	}, api.OK)
}

// P2.1: the greatest outline.
func TestGreatestOutline(t *testing.T) {
	const far = api.MaxPoint
	l := rectangle(-far, -far, far, far)
	area, e := building.Area(l)
	want(t, "Area", area, e, 4*far*far, api.OK)
	walls, e := building.Walls(l)
	for i, w := range walls {
		want(t, "a side", w, e, api.Wall{From: l[i], To: l[(i+1)%4], Length: 2 * far, Dir: i}, api.OK)
	}
	want(t, "Walls", len(walls), e, 4, api.OK)
}

// P2.1: Corners and Walls of shapes: the sides hang together, and a corner is outer if one cell in four is filled.
func TestWallsAndCorners(t *testing.T) {
	d := dice()
	for range 500 {
		s, l := someShape(d, 1+d.Intn(6), 1+d.Intn(6), 20)
		corners, e := building.Corners(l)
		wantError(t, "Corners", e, api.OK)
		walls, e := building.Walls(l)
		wantError(t, "Walls", e, api.OK)
		if len(corners) != len(l) || len(walls) != len(l) {
			t.Fatalf("%v: %d corners, %d sides", l, len(corners), len(walls))
		}
		for i, p := range l {
			n := 0
			for _, q := range points(1, 1, 1, -1, -1, 1, -1, -1) {
				if s.hasHalf(2*p.X+q.X, 2*p.Y+q.Y) {
					n++
				}
			}
			want(t, "a corner", corners[i], 0, 2-n, 0)
			w := walls[i]
			step := points(1, 0, 0, 1, -1, 0, 0, -1)[w.Dir]
			want(t, "From", w.From, 0, p, 0)
			want(t, "To", w.To, 0, l[(i+1)%len(l)], 0)
			want(t, "To by Length", w.To, 0, api.Point{X: p.X + w.Length*step.X, Y: p.Y + w.Length*step.Y}, 0)
		}
	}
}
