package building_test

import (
	"math"
	"testing"

	"putlog/api"
	"putlog/building"
)

// P2.5: Blocks and Forbidden: boxes at the hut, and the errors of boxes.
func TestBlocksAndForbidden(t *testing.T) {
	b := theHut()
	b.Boxes = []api.Box{box(-100, 0, 0, 0, 100, 100), box(-200, 0, 0, -50, 100, 200), box(4000, 0, 0, 4100, 100, 100)}
	for _, c := range []struct {
		x      api.Box
		blocks bool
		number int
	}{
		{box(0, 0, 0, 1, 1, 1), true, -1},
		{box(-1, 0, 0, 1, 1, 1), true, 0},
		{box(-1, 0, 0, 0, 1, 1), false, 0},
		{box(-1, 0, 100, 0, 1, 101), false, -1},
		{box(-60, 0, 100, 0, 1, 101), false, 1},
		{box(-60, 0, 99, 0, 1, 101), false, 0},
		{box(-50, 100, 0, 0, 101, 1), false, -1},
		{box(-300, 0, 0, 9999, 50, 50), true, 0},
		{box(3000, 0, 0, 4001, 1, 1), true, 2},
		{box(3000, 0, 3000, 4001, 1, 3001), false, -1},
		{box(3000, 0, 2999, 3001, 1, 3001), true, -1},
		{box(1999, 3000, 5999, 3000, 3001, 7000), true, -1},
		{box(2000, 3000, -9, 3000, 3001, 7000), false, -1},
		{box(1000, 3000, 6000, 3000, 3001, 7000), false, -1},
		{box(1000, 3000, -5, 3000, 3001, 0), false, -1},
		{box(1000, 3000, -5, 3000, 3001, 1), true, -1},
		{box(-api.MaxPoint, -api.MaxPoint, -api.MaxPoint, api.MaxPoint, api.MaxPoint, api.MaxPoint), true, 0},
	} {
		is, e := building.Blocks(b, c.x)
		want(t, "Blocks", is, e, c.blocks, api.OK)
		number, e := building.Forbidden(b, c.x)
		want(t, "Forbidden", number, e, c.number, api.OK)
	}
	for _, bad := range badBoxes() {
		is, e := building.Blocks(b, bad.x)
		want(t, "Blocks", is, e, false, bad.e)
		number, e := building.Forbidden(b, bad.x)
		want(t, "Forbidden", number, e, 0, bad.e)
	}
}

// P2.5: Blocks and Forbidden of towers.
func TestSpaceOfTowers(t *testing.T) {
	d := dice()
	for range 500 {
		w := someTower(d)
		for range 5 {
			x := someBox(d, 14)
			is, e := building.Blocks(w.building, x)
			want(t, "Blocks", is, e, w.holds(x), api.OK)
			right := -1
			for i, y := range w.building.Boxes {
				if is, _ := building.Overlap(x, y); is {
					right = i
					break
				}
			}
			number, e := building.Forbidden(w.building, x)
			want(t, "Forbidden", number, e, right, api.OK)
		}
	}
}

// P2.5: Depth: the chapter's example, the ends, the ground and the roof, and the errors.
func TestDepth(t *testing.T) {
	b := theHut()
	for _, c := range []struct{ wall, along, z, want int }{
		{0, 3000, 3500, -1}, {0, 1000, 3500, 0}, {1, 500, 3500, 2000},
		{0, 3000, 2999, 0}, {0, 3000, 3000, -1}, {0, 2000, 3000, 0}, {0, 2001, 5999, -1}, {0, 0, 5999, 0}, {0, 4000, 0, 0},
		{1, 0, 3000, 2000}, {1, 2000, 3000, 2000}, {2, 0, 3000, -1}, {2, 2000, 3000, 0}, {2, 1999, 3000, -1},
		{3, 0, 3000, 0}, {3, 2000, 5000, 0}, {4, 0, 3000, 0}, {5, 4000, 3000, 0}, {5, 4000, 0, 0},
	} {
		depth, e := building.Depth(b, c.wall, c.along, c.z)
		want(t, "Depth", depth, e, c.want, api.OK)
	}
	for _, c := range []struct {
		wall, along, z int
		e              api.Errno
	}{
		{-1, -1, -1, api.ErrMissing}, {6, 0, 0, api.ErrMissing}, {math.MinInt, 0, 0, api.ErrMissing}, {math.MaxInt, 0, 0, api.ErrMissing},
		{0, -1, 0, api.ErrRange}, {0, 4001, 0, api.ErrRange}, {1, 2001, 0, api.ErrRange}, {0, 0, -1, api.ErrRange}, {0, 0, 6000, api.ErrRange},
		{0, math.MinInt, 0, api.ErrRange}, {0, math.MaxInt, 0, api.ErrRange}, {0, 0, math.MinInt, api.ErrRange}, {0, 0, math.MaxInt, api.ErrRange},
	} {
		depth, e := building.Depth(b, c.wall, c.along, c.z)
		want(t, "Depth", depth, e, 0, c.e)
	}
}

// P2.5: Depth through a gap of the building, and where an upper side goes on in the line of a lower one.
func TestDepthThroughGaps(t *testing.T) {
	u := points(0, 0, 60, 0, 60, 60, 40, 60, 40, 20, 20, 20, 20, 60, 0, 60)
	b := api.Building{Name: "u", Roof: 20, Storeys: []api.Storey{{Outline: u}, {Floor: 10, Outline: rectangle(45, 0, 60, 60)}}}
	for _, c := range []struct{ wall, along, z, want int }{
		{7, 10, 10, 45}, // through the left leg and the gap into the right leg
		{7, 50, 10, 45},
		{1, 10, 10, 0},
		{5, 10, 10, -1}, // the right side of the left leg, into which it leads
		{3, 10, 10, 5},
		{4, 10, 10, -1},
		{2, 15, 19, 0},
		{2, 16, 19, -1},
	} {
		depth, e := building.Depth(b, c.wall, c.along, c.z)
		want(t, "Depth", depth, e, c.want, api.OK)
	}
	b.Storeys[0].Outline = theL()
	b.Storeys[1].Outline = rectangle(1000, 500, 2000, 3000)
	for _, c := range []struct{ wall, along, z, want int }{
		{2, 2000, 10, 0}, // at the inner corner, which lies on the upper side
		{3, 0, 10, 0},
		{3, 1000, 10, 0},
		{3, 1001, 10, -1},
		{2, 1999, 10, -1},
		{0, 2000, 10, 500},
		{4, 0, 10, 1000},
		{4, 1000, 10, 1000},
		{4, 1001, 10, -1},
	} {
		depth, e := building.Depth(b, c.wall, c.along, c.z)
		want(t, "Depth", depth, e, c.want, api.OK)
	}
}

// P2.5: Depth of towers, step by step inwards.
func TestDepthOfTowers(t *testing.T) {
	d := dice()
	found := [3]int{}
	for range 150 {
		w := someTower(d)
		walls, _ := building.Walls(w.building.Storeys[0].Outline)
		for k, wall := range walls {
			for along := range wall.Length + 1 {
				for z := range w.building.Roof {
					right := w.depth(wall, along, z)
					found[sign(right)+1]++
					depth, e := building.Depth(w.building, k, along, z)
					want(t, "Depth", depth, e, right, api.OK)
				}
			}
		}
	}
	if found[0] < 100 || found[1] < 100 || found[2] < 100 {
		t.Errorf("depths found: %v", found)
	}
}

// depth is what Depth should return, for small numbers.
func (t tower) depth(w api.Wall, along, z int) int {
	k := 0
	for i, s := range t.building.Storeys {
		if s.Floor <= z {
			k = i
		}
	}
	ways := points(1, 0, 0, 1, -1, 0, 0, -1)
	ahead, inwards := ways[w.Dir], ways[(w.Dir+1)%4]
	for d := range 20 {
		p := api.Point{X: w.From.X + along*ahead.X + d*inwards.X, Y: w.From.Y + along*ahead.Y + d*inwards.Y}
		if t.shapes[k].where(p) >= 0 {
			return d
		}
	}
	return -1
}
