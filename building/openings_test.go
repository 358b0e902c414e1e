package building_test

import (
	"math"
	"testing"

	"putlog/api"
	"putlog/building"
)

// P2.6: Windows of openings that stand in the plane of a facade, or not.
func TestWindows(t *testing.T) {
	u := points(0, 0, 60, 0, 60, 60, 40, 60, 40, 20, 20, 20, 20, 60, 0, 60)
	b := api.Building{Name: "u", Roof: 30, Storeys: []api.Storey{
		{Outline: u},
		{Floor: 10, Outline: append(u[2:], u[:2]...)},
		{Floor: 20, Outline: rectangle(10, 0, 60, 20)},
	}}
	b.Openings = []api.Opening{
		opening(0, 0, 5, 7, 1, 9),  // the bottom
		opening(0, 2, 5, 7, 1, 9),  // the top of the right leg
		opening(2, 0, 5, 7, 1, 9),  // the bottom, 10 further to the right
		opening(1, 0, 5, 7, 1, 9),  // the top of the right leg
		opening(1, 4, 5, 7, 0, 10), // the top of the left leg
		opening(0, 4, 5, 7, 1, 9),  // the bottom of the gap
		opening(2, 2, 5, 7, 1, 9),  // the bottom of the gap, and beyond it on both sides
		opening(2, 1, 5, 7, 1, 9),  // the right side
		opening(2, 3, 5, 7, 1, 9),  // the left side, 10 further in
		opening(0, 0, 0, 5, 1, 9),
	}
	for k, right := range [][]api.Window{
		{{From: 5, To: 7, Bottom: 1, Top: 9}, {From: 15, To: 17, Bottom: 21, Top: 29, Number: 2}, {From: 0, To: 5, Bottom: 1, Top: 9, Number: 9}},
		{{From: 5, To: 7, Bottom: 21, Top: 29, Number: 7}},
		{{From: 5, To: 7, Bottom: 1, Top: 9, Number: 1}, {From: 5, To: 7, Bottom: 11, Top: 19, Number: 3}, {From: 45, To: 47, Bottom: 10, Top: 20, Number: 4}},
		{},
		{{From: 5, To: 7, Bottom: 1, Top: 9, Number: 5}, {From: -15, To: -13, Bottom: 21, Top: 29, Number: 6}},
		{},
		{{From: -35, To: -33, Bottom: 1, Top: 9, Number: 1}, {From: -35, To: -33, Bottom: 11, Top: 19, Number: 3}, {From: 5, To: 7, Bottom: 10, Top: 20, Number: 4}},
		{},
	} {
		windows, e := building.Windows(b, k)
		want(t, "Windows", windows, e, right, api.OK)
	}
	for _, k := range []int{-1, 8, math.MinInt, math.MaxInt} {
		windows, e := building.Windows(b, k)
		want(t, "Windows of no facade", windows, e, []api.Window{}, api.ErrMissing)
	}
	b.Openings = nil
	windows, e := building.Windows(b, 0)
	want(t, "Windows of nothing", windows, e, []api.Window{}, api.OK)
}

// P2.6: OpeningAt at the edges of openings, and the error of the place.
func TestOpeningAt(t *testing.T) {
	b := theHut()
	b.Openings = []api.Opening{opening(1, 1, 100, 300, 50, 80), opening(0, 0, 100, 300, 50, 80), opening(0, 3, 100, 300, 50, 80), opening(1, 0, 100, 300, 50, 80), opening(0, 5, 100, 300, 50, 80)}
	for _, c := range []struct {
		p    api.Node
		want int
	}{
		{node(2000, 200, 3060), 0}, {node(2000, 200, 60), -1}, {node(2001, 200, 3060), -1}, {node(1999, 200, 3060), -1},
		{node(200, 0, 60), 1}, {node(200, 0, 3060), 3}, {node(101, 0, 51), 1}, {node(299, 0, 79), 1}, {node(200, 1, 60), -1},
		{node(100, 0, 60), -1}, {node(300, 0, 60), -1}, {node(200, 0, 50), -1}, {node(200, 0, 80), -1}, {node(-200, 0, 60), -1},
		{node(2000, 2101, 51), 2}, {node(2000, 2100, 51), -1}, {node(2000, 1899, 51), -1},
		{node(0, 3701, 51), 4}, {node(0, 3899, 79), 4}, {node(0, 3700, 79), -1}, {node(0, 200, 79), -1}, {node(0, 3800, -51), -1},
		{node(api.MaxPoint, -api.MaxPoint, api.MaxPoint), -1},
	} {
		number, e := building.OpeningAt(b, c.p)
		want(t, "OpeningAt", number, e, c.want, api.OK)
	}
	for _, n := range []int{api.MaxPoint + 1, -api.MaxPoint - 1, math.MaxInt, math.MinInt} {
		for _, p := range []api.Node{{X: n}, {Y: n}, {Z: n}} {
			number, e := building.OpeningAt(b, p)
			want(t, "OpeningAt out of range", number, e, 0, api.ErrRange)
		}
	}
}

// P2.6: OpeningAt and Windows of towers: by the places within each opening.
func TestOpeningsOfTowers(t *testing.T) {
	d := dice()
	ways := points(1, 0, 0, 1, -1, 0, 0, -1)
	for range 50 {
		b := someTower(d).building
		first := map[api.Node]int{}
		at := map[[3]int]api.Window{} // the place in the plan where an opening begins, its number
		for i, o := range b.Openings {
			s := b.Storeys[o.Storey]
			walls, _ := building.Walls(s.Outline)
			w := walls[o.Wall]
			for a := o.From + 1; a < o.To; a++ {
				for z := o.Bottom + 1; z < o.Top; z++ {
					p := node(w.From.X+a*ways[w.Dir].X, w.From.Y+a*ways[w.Dir].Y, s.Floor+z)
					if _, is := first[p]; !is {
						first[p] = i
					}
				}
			}
			at[[3]int{w.From.X + o.From*ways[w.Dir].X, w.From.Y + o.From*ways[w.Dir].Y, i}] = api.Window{From: o.From, To: o.To, Bottom: s.Floor + o.Bottom, Top: s.Floor + o.Top, Number: w.Dir}
		}
		for i := range 14 * 14 * 20 {
			p := node(i%14, i/14%14, i/196)
			right, is := first[p]
			if !is {
				right = -1
			}
			number, e := building.OpeningAt(b, p)
			want(t, "OpeningAt", number, e, right, api.OK)
		}
		facades, _ := building.Walls(b.Storeys[0].Outline)
		for k, f := range facades {
			var right []api.Window
			for i := range b.Openings {
				for a := -20; a <= 20; a++ {
					o, is := at[[3]int{f.From.X + a*ways[f.Dir].X, f.From.Y + a*ways[f.Dir].Y, i}]
					if is && o.Number == f.Dir {
						right = append(right, api.Window{From: a, To: a + o.To - o.From, Bottom: o.Bottom, Top: o.Top, Number: i})
					}
				}
			}
			windows, e := building.Windows(b, k)
			want(t, "Windows", windows, e, right, api.OK)
		}
	}
}
