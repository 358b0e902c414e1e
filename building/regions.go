package building

import (
	"iter"
	"slices"

	"putlog/api"
)

// Where returns 1 if p is inside, 0 if it is on a side, and -1 otherwise.
func Where(l []api.Point, p api.Point) (int, api.Errno) {
	if e := outlineAndPlaceError(l, p); e != api.OK {
		return 0, e
	}
	return where(sides(l), p), api.OK
}

// Covers reports whether the region of inner is contained in that of outer.
func Covers(outer, inner []api.Point) (bool, api.Errno) {
	for _, l := range [][]api.Point{outer, inner} {
		if e := CheckOutline(l); e != api.OK {
			return false, e
		}
	}
	return covers(outer, inner), api.OK
}

// Distance returns the square of the distance of p from the region.
func Distance(l []api.Point, p api.Point) (int, api.Errno) {
	if e := outlineAndPlaceError(l, p); e != api.OK {
		return 0, e
	}
	w := sides(l)
	if where(w, p) >= 0 {
		return 0, api.OK
	}
	least := distance(w[0], p)
	for _, side := range w {
		least = min(least, distance(side, p))
	}
	return least, api.OK
}

func outlineAndPlaceError(l []api.Point, p api.Point) api.Errno {
	if e := CheckOutline(l); e != api.OK {
		return e
	}
	return placeError(p)
}

// where is Where without its errors.
func where(w []api.Wall, p api.Point) int {
	inside := -1
	for _, side := range w {
		if distance(side, p) == 0 {
			return 0
		}
		// A ray from p to the east crosses the sides that have the height of p, but for their upper ends.
		if low, high := span(side); low <= p.Y && p.Y < high && p.X < side.From.X {
			inside = -inside
		}
	}
	return inside
}

// span returns the heights at which a side lies that leads north or south; for others, an empty one.
func span(side api.Wall) (low, high int) {
	return min(side.From.Y, side.To.Y), max(side.From.Y, side.To.Y)
}

// distance returns the square of the distance of p from a side.
func distance(side api.Wall, p api.Point) int {
	along, left := measure(side, p)
	beyond := max(-along, along-side.Length, 0)
	return beyond*beyond + left*left
}

// covers is Covers without its errors.
func covers(outer, inner []api.Point) bool {
	for in := range cells(outer, inner) {
		if in[1] && !in[0] {
			return false
		}
	}
	return true
}

// overlap reports whether the insides of two outlines have a common point.
func overlap(l, m []api.Point) bool {
	for in := range cells(l, m) {
		if in[0] && in[1] {
			return true
		}
	}
	return false
}

// cells returns a loop over the cells of the grid that all corners make. It yields for each cell in
// which of the outlines the cell lies, in a list that is written over in the next step.
func cells(outlines ...[]api.Point) iter.Seq[[]bool] {
	var walls [][]api.Wall
	var xs, ys [][]int
	for _, l := range outlines {
		walls = append(walls, sides(l))
		xs = append(xs, numbers(l, func(p api.Point) int { return p.X }))
		ys = append(ys, numbers(l, func(p api.Point) int { return p.Y }))
	}
	columns, rows := gridLines(xs...), gridLines(ys...)
	return func(yield func([]bool) bool) {
		in := make([]bool, len(walls))
		borders := make([][]int, len(walls))
		for _, y := range rows[:len(rows)-1] {
			for i, w := range walls {
				borders[i] = crossings(w, y)
			}
			for _, x := range columns[:len(columns)-1] {
				for i, b := range borders {
					passed, _ := slices.BinarySearch(b, x+1)
					in[i] = passed%2 == 1
				}
				if !yield(in) {
					return
				}
			}
		}
	}
}

// numbers returns one number of each point.
func numbers(l []api.Point, of func(api.Point) int) []int {
	out := make([]int, len(l))
	for i, p := range l {
		out[i] = of(p)
	}
	return out
}

// gridLines returns the numbers of all lists, ascending, each once.
func gridLines(lists ...[]int) []int {
	all := slices.Concat(lists...)
	slices.Sort(all)
	return slices.Compact(all)
}

// crossings returns where sides cross the row of cells that begins at y, ascending.
func crossings(w []api.Wall, y int) []int {
	var out []int
	for _, side := range w {
		if low, high := span(side); low <= y && y < high {
			out = append(out, side.From.X)
		}
	}
	slices.Sort(out)
	return out
}
