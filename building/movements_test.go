package building_test

import (
	"math"
	"testing"

	"putlog/api"
	"putlog/building"
)

// fullHut is the hut with openings and boxes.
func fullHut() api.Building {
	b := theHut()
	b.Openings = []api.Opening{opening(1, 1, 100, 300, 50, 80), opening(0, 0, 100, 300, 50, 80)}
	b.Boxes = []api.Box{box(-300, 50, 0, -100, 90, 500), box(4000, 1, 2, 5000, 4, 3)}
	return b
}

// P2.7: Move and Turn of the hut.
func TestMoveAndTurn(t *testing.T) {
	b, e := building.Move(fullHut(), 10, -20)
	right := fullHut()
	right.Storeys[0].Outline = points(10, -20, 4010, -20, 4010, 1980, 2010, 1980, 2010, 3980, 10, 3980)
	right.Storeys[1].Outline = rectangle(10, -20, 2010, 3980)
	right.Boxes = []api.Box{box(-290, 30, 0, -90, 70, 500), box(4010, -19, 2, 5010, -16, 3)}
	want(t, "Move", b, e, right, api.OK)
	b, e = building.Move(fullHut(), 0, 0)
	want(t, "Move by 0", b, e, fullHut(), api.OK)
	b, e = building.Turn(fullHut())
	right = fullHut()
	right.Storeys[0].Outline = points(0, 0, 0, 4000, -2000, 4000, -2000, 2000, -4000, 2000, -4000, 0)
	right.Storeys[1].Outline = points(0, 0, 0, 2000, -4000, 2000, -4000, 0)
	right.Boxes = []api.Box{box(-90, -300, 0, -50, -100, 500), box(-4, 4000, 2, -1, 5000, 3)}
	want(t, "Turn", b, e, right, api.OK)
}

// P2.7: the range of Move.
func TestMoveRange(t *testing.T) {
	const far = api.MaxPoint
	b := api.Building{Name: "b", Roof: 10, Storeys: []api.Storey{{Outline: rectangle(1-far, -far, 5-far, 5-far)}}}
	boxed := func(x api.Box) api.Building {
		c := api.Building{Name: "b", Roof: 10, Storeys: []api.Storey{{Outline: rectangle(0, 0, 4, 4)}}, Boxes: []api.Box{x}}
		return c
	}
	for _, c := range []struct {
		b      api.Building
		dx, dy int
		e      api.Errno
	}{
		{b, 2*far - 5, 2*far - 5, api.OK}, {b, -1, 0, api.OK}, {b, 2*far - 4, 0, api.ErrRange}, {b, 0, 2*far - 4, api.ErrRange},
		{b, -2, 0, api.ErrRange}, {b, 0, -1, api.ErrRange}, {b, 2 * far, 0, api.ErrRange}, {b, 2*far + 1, 0, api.ErrRange},
		{b, math.MaxInt, 0, api.ErrRange}, {b, 0, math.MaxInt, api.ErrRange}, {b, math.MinInt, 0, api.ErrRange}, {b, 0, math.MinInt, api.ErrRange},
		{boxed(box(9, 9, 9, far, 10, 10)), 1, 0, api.ErrRange}, {boxed(box(9, 9, 9, far, 10, 10)), 0, 1, api.OK},
		{boxed(box(9, 9, 9, 10, far, 10)), 0, 1, api.ErrRange}, {boxed(box(9, 9, 9, 10, 10, far)), 1, 1, api.OK},
		{boxed(box(-far, 9, 9, 10, 10, 10)), -1, 0, api.ErrRange}, {boxed(box(9, -far, 9, 10, 10, 10)), 0, -1, api.ErrRange},
	} {
		got, e := building.Move(c.b, c.dx, c.dy)
		wantError(t, "Move", e, c.e)
		if c.e != api.OK {
			want(t, "Move out of range", got, e, api.Building{}, c.e)
			continue
		}
		back, e := building.Move(got, -c.dx, -c.dy)
		want(t, "Move back", back, e, c.b, api.OK)
	}
	full := api.Building{Name: "b", Roof: 10, Storeys: []api.Storey{{Outline: rectangle(-far, -far, far, far)}}}
	turned, e := building.Turn(full)
	wantError(t, "Turn of the greatest outline", e, api.OK)
	want(t, "its corners", turned.Storeys[0].Outline, e, points(far, -far, far, far, -far, far, -far, -far), api.OK)
}
