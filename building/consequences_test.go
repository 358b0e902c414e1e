package building_test

import (
	"testing"

	"putlog/api"
	"putlog/building"
)

// P2.9: corners, and parallel outlines of parallel outlines.
func TestConsequencesOfOutlines(t *testing.T) {
	d := dice()
	twice := 0
	for range 1000 {
		_, l := someShape(d, 1+d.Intn(6), 1+d.Intn(6), 60)
		corners, _ := building.Corners(l)
		sum := 0
		for _, c := range corners {
			sum += c
		}
		want(t, "outer corners less inner ones", sum, 0, 4, 0)
		first, second := d.Intn(5), d.Intn(5)
		once, e := building.Offset(l, first)
		if e != api.OK {
			continue
		}
		area, _ := building.Area(l)
		walls, _ := building.Walls(l)
		for _, w := range walls {
			area += first * w.Length
		}
		greater, e := building.Area(once)
		want(t, "the area of an offset", greater, e, area+4*first*first, api.OK)
		again, e := building.Offset(once, second)
		if e == api.OK {
			twice++
			sum, e := building.Offset(l, first+second)
			want(t, "an offset of an offset", again, e, sum, api.OK)
		}
	}
	if twice < 200 {
		t.Errorf("%d outlines are offset twice", twice)
	}
}

// measures are what movements do not change: areas, volumes, distances and depths.
func measures(t *testing.T, b api.Building, p api.Point) []int {
	t.Helper()
	volume, e := building.Volume(b)
	wantError(t, "Volume", e, api.OK)
	out := []int{volume}
	for i, s := range b.Storeys {
		area, e := building.Area(s.Outline)
		wantError(t, "Area", e, api.OK)
		distance, e := building.Distance(s.Outline, p)
		wantError(t, "Distance", e, api.OK)
		out = append(out, i, area, distance)
	}
	walls, _ := building.Walls(b.Storeys[0].Outline)
	for k, w := range walls {
		for along := range w.Length + 1 {
			depth, e := building.Depth(b, k, along, b.Roof-1)
			wantError(t, "Depth", e, api.OK)
			out = append(out, depth)
		}
	}
	return out
}

// P2.9: movements of towers.
func TestConsequencesOfMovements(t *testing.T) {
	d := dice()
	for range 200 {
		b := someTower(d).building
		p := api.Point{X: d.Intn(20) - 4, Y: d.Intn(20) - 4}
		right := measures(t, b, p)
		dx, dy := d.Intn(2000)-1000, d.Intn(2000)-1000
		moved, e := building.Move(b, dx, dy)
		wantError(t, "Move", e, api.OK)
		want(t, "what is moved", measures(t, moved, api.Point{X: p.X + dx, Y: p.Y + dy}), 0, right, 0)
		turned := b
		for range 4 {
			turned, e = building.Turn(turned)
			wantError(t, "Turn", e, api.OK)
			p = api.Point{X: -p.Y, Y: p.X}
			want(t, "what is turned", measures(t, turned, p), 0, right, 0)
		}
		want(t, "four Turns", turned, 0, b, 0)
	}
}

// P2.9: what is printed is read as the building.
func TestConsequencesOfDrawings(t *testing.T) {
	d := dice()
	list := []api.Building{theHut(), fullHut(), greatest()}
	for range 300 {
		b, _ := building.Move(someTower(d).building, d.Intn(2*api.MaxPoint)-api.MaxPoint, d.Intn(100)-50)
		if b.Name != "" {
			list = append(list, b)
		}
	}
	if len(list) < 200 {
		t.Errorf("only %d buildings", len(list))
	}
	for _, b := range list {
		s, e := building.Print(b)
		wantError(t, "Print", e, api.OK)
		again, line, e := building.Parse(s)
		want(t, "Parse", again, e, b, api.OK)
		want(t, "its line", line, e, 0, api.OK)
	}
}
