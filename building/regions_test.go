package building_test

import (
	"math"
	"testing"

	"putlog/api"
	"putlog/building"
)

// outPlaces are places of the plan that are out of range.
func outPlaces() []api.Point {
	const far = api.MaxPoint + 1
	return points(far, 0, -far, 0, 0, far, 0, -far, math.MaxInt, 0, 0, math.MinInt)
}

// P2.2: Where: the chapter's example, its edges, and places out of range.
func TestWhere(t *testing.T) {
	const far = api.MaxPoint
	for _, x := range []struct{ x, y, want int }{
		{2000, 2000, 0}, {1000, 1000, 1}, {3000, 3000, -1},
		{0, 0, 0}, {4000, 0, 0}, {4000, 2000, 0}, {0, 4000, 0}, {2000, 3999, 0}, {2001, 3999, -1}, {1999, 3999, 1},
		{3000, 2000, 0}, {4001, 2000, -1}, {-1, 2000, -1}, {-1, 0, -1}, {5000, 0, -1}, {5000, 4000, -1},
		{far, far, -1}, {-far, -far, -1}, {1999, 2000, 1}, {2000, 1999, 1},
	} {
		where, e := building.Where(theL(), api.Point{X: x.x, Y: x.y})
		want(t, "Where", where, e, x.want, api.OK)
	}
	for _, p := range outPlaces() {
		where, e := building.Where(theL(), p)
		want(t, "Where out of range", where, e, 0, api.ErrRange)
		distance, e := building.Distance(theL(), p)
		want(t, "Distance out of range", distance, e, 0, api.ErrRange)
	}
}

// P2.2: Distance: the chapter's example, and the greatest one.
func TestDistance(t *testing.T) {
	const far = api.MaxPoint
	for _, x := range []struct{ x, y, want int }{
		{3000, 3000, 1000000}, {5000, 5000, 10000000}, {1000, 1000, 0}, {2000, 2000, 0}, {4000, 1000, 0},
		{-3, -4, 25}, {4003, -4, 25}, {4003, 2004, 25}, {100, -7, 49}, {-7, 100, 49}, {2001, 2002, 1},
	} {
		distance, e := building.Distance(theL(), api.Point{X: x.x, Y: x.y})
		want(t, "Distance", distance, e, x.want, api.OK)
	}
	distance, e := building.Distance(rectangle(-far, -far, 1-far, 1-far), api.Point{X: far, Y: far})
	want(t, "the greatest distance", distance, e, 2*(2*far-1)*(2*far-1), api.OK)
}

// P2.2: Where and Distance of shapes, at all places near them.
func TestPlacesOfShapes(t *testing.T) {
	d := dice()
	for range 60 {
		s, l := someShape(d, 1+d.Intn(5), 1+d.Intn(5), 12)
		for x := -2; x <= 14; x++ {
			for y := -2; y <= 14; y++ {
				p := api.Point{X: x, Y: y}
				where, e := building.Where(l, p)
				want(t, "Where", where, e, s.where(p), api.OK)
				distance, e := building.Distance(l, p)
				want(t, "Distance", distance, e, s.distance(p), api.OK)
			}
		}
	}
}

// P2.2: Covers of shapes, by the points between whole places.
func TestCovers(t *testing.T) {
	d := dice()
	found := 0
	for i := range 1500 {
		s, outer := someShape(d, 1+d.Intn(4), 1+d.Intn(4), 7)
		r, inner := someShape(d, 1+d.Intn(3), 1+d.Intn(3), 7)
		if i%3 == 0 {
			r, inner = s.within(d)
		}
		right := true
		for x := range 7 {
			for y := range 7 {
				if r.hasHalf(2*x+1, 2*y+1) && !s.hasHalf(2*x+1, 2*y+1) {
					right = false
				}
			}
		}
		if right {
			found++
		}
		covers, e := building.Covers(outer, inner)
		want(t, "Covers", covers, e, right, api.OK)
		covers, e = building.Covers(outer, outer)
		want(t, "Covers of itself", covers, e, true, api.OK)
	}
	if found < 300 {
		t.Errorf("%d are covered", found)
	}
}

// P2.2: Covers where sides lie upon each other, cross, or are far from each other.
func TestCoversAtEdges(t *testing.T) {
	u := points(0, 0, 6, 0, 6, 6, 4, 6, 4, 2, 2, 2, 2, 6, 0, 6)
	for _, x := range []struct {
		what         string
		outer, inner []api.Point
		want         bool
	}{
		{"at a corner", theL(), rectangle(0, 0, 1, 1), true},
		{"at the inner corner", theL(), rectangle(1999, 1999, 2000, 2000), true},
		{"over the inner corner", theL(), rectangle(1999, 1999, 2001, 2001), false},
		{"in the notch", theL(), rectangle(2000, 2000, 4000, 4000), false},
		{"one beyond", theL(), rectangle(0, 0, 4001, 1), false},
		{"far away", theL(), rectangle(9000, 9000, 9001, 9001), false},
		{"greater", rectangle(0, 0, 1, 1), theL(), false},
		{"over the gap of a U, all corners within", u, rectangle(0, 3, 6, 5), false},
		{"over the gap of a U, on its sides", u, rectangle(2, 2, 4, 6), false},
		{"the bottom of a U", u, rectangle(0, 0, 6, 2), true},
		{"a leg of a U", u, rectangle(4, 0, 6, 6), true},
	} {
		covers, e := building.Covers(x.outer, x.inner)
		want(t, "Covers "+x.what, covers, e, x.want, api.OK)
	}
}

// P2.2: Offset: the chapter's example, and the errors.
func TestOffset(t *testing.T) {
	const far = api.MaxPoint
	l, e := building.Offset(theL(), 100)
	want(t, "Offset", l, e, points(-100, -100, 4100, -100, 4100, 2100, 2100, 2100, 2100, 4100, -100, 4100), api.OK)
	l, e = building.Offset(theL(), 0)
	want(t, "Offset by 0", l, e, theL(), api.OK)
	l, e = building.Offset(rectangle(-1, -1, 0, 0), far-1)
	want(t, "Offset by much", l, e, rectangle(-far, -far, far-1, far-1), api.OK)
	notch := points(0, 0, 60, 0, 60, 50, 40, 50, 40, 20, 20, 20, 20, 50, 0, 50) // 20 wide
	// A bay of 60 with a mouth of 20: the lips meet where no side is short.
	mouth := points(0, 0, 200, 0, 200, 100, 110, 100, 110, 90, 130, 90, 130, 30, 70, 30, 70, 90, 90, 90, 90, 100, 0, 100)
	for _, x := range []struct {
		what string
		l    []api.Point
		d    int
		e    api.Errno
	}{
		{"by -1", notch, -1, api.ErrRange},
		{"by the least int", notch, math.MinInt, api.ErrRange},
		{"by the greatest int", notch, math.MaxInt, api.ErrRange},
		{"by one too much", rectangle(0, 0, 4, 4), far + 1, api.ErrRange},
		{"of a notch by less than the half", notch, 9, api.OK},
		{"of a notch by the half", notch, 10, api.ErrClash},
		{"of a notch by more", notch, 11, api.ErrClash},
		{"of a notch beyond the range", notch, far, api.ErrClash},
		{"of a notch by the half, beyond the range", shiftedBy(notch, far-65), 10, api.ErrClash},
		{"of a mouth by less than the half", mouth, 9, api.OK},
		{"of a mouth by the half", mouth, 10, api.ErrClash},
		{"of a mouth by more", mouth, 11, api.ErrClash},
		{"beyond the east", rectangle(far-5, 0, far-3, 4), 4, api.ErrRange},
		{"up to the east", rectangle(far-5, 0, far-3, 4), 3, api.OK},
		{"beyond the west", rectangle(3-far, 0, 5-far, 4), 4, api.ErrRange},
		{"beyond the north", rectangle(0, far-5, 4, far-3), 4, api.ErrRange},
		{"beyond the south", rectangle(0, 3-far, 4, 5-far), 4, api.ErrRange},
		{"of a mouth beyond the range", shiftedBy(mouth, far-205), 10, api.ErrRange},
	} {
		l, e := building.Offset(x.l, x.d)
		wantError(t, "Offset "+x.what, e, x.e)
		if e != api.OK {
			want(t, "Offset "+x.what, l, e, points(), x.e)
		}
	}
}

// shiftedBy is an outline whose X are greater by n.
func shiftedBy(l []api.Point, n int) []api.Point {
	out := points()
	for _, p := range l {
		out = append(out, api.Point{X: p.X + n, Y: p.Y})
	}
	return out
}

// P2.2: Offset of shapes: each side lies to the right of its own, at the distance.
func TestOffsetOfShapes(t *testing.T) {
	d := dice()
	found := map[api.Errno]int{}
	for range 1500 {
		_, l := someShape(d, 1+d.Intn(5), 1+d.Intn(5), 20)
		by := d.Intn(8)
		right, f := plainOffset(t, l, by)
		found[f]++
		got, e := building.Offset(l, by)
		want(t, "Offset", got, e, right, f)
	}
	if found[api.OK] < 100 || found[api.ErrClash] < 100 {
		t.Errorf("errors found: %v", found)
	}
}

// plainOffset is the parallel outline of one of small numbers, made of the lines of its sides.
func plainOffset(t *testing.T, l []api.Point, d int) ([]api.Point, api.Errno) {
	walls, e := building.Walls(l)
	wantError(t, "Walls", e, api.OK)
	out := make([]api.Point, len(l))
	for i, w := range walls {
		next := (i + 1) % len(l)
		switch w.Dir { // a side gives one number to both of its corners
		case 0:
			out[i].Y, out[next].Y = w.From.Y-d, w.From.Y-d
		case 1:
			out[i].X, out[next].X = w.From.X+d, w.From.X+d
		case 2:
			out[i].Y, out[next].Y = w.From.Y+d, w.From.Y+d
		case 3:
			out[i].X, out[next].X = w.From.X-d, w.From.X-d
		}
	}
	for i, w := range walls {
		p, q := out[i], out[(i+1)%len(l)]
		if [2]int{sign(q.X - p.X), sign(q.Y - p.Y)} != [2]int{sign(w.To.X - w.From.X), sign(w.To.Y - w.From.Y)} {
			return points(), api.ErrClash
		}
	}
	if building.CheckOutline(out) != api.OK {
		return points(), api.ErrClash
	}
	return out, api.OK
}
