package layout_test

import (
	"math/rand"
	"reflect"
	"slices"
	"testing"

	"putlog/api"
	"putlog/building"
	"putlog/layout"
)

// The tests call the exported functions only. They compare with closings that are counted one by one, with
// runs that are read off the parallel outlines, and with all choices for the corners.

// dice is a repeatable row of chances.
func dice() *rand.Rand { return rand.New(rand.NewSource(7)) }

// theSystem is the system of the chapter's examples.
func theSystem() api.System {
	return api.System{Bays: []int{1000, 2500}, Boards: []int{500}, Width: 700, Gap: 300, Lift: 2000}
}

// bays is a system of bays alone.
func bays(l ...int) api.System {
	return api.System{Bays: l, Width: 700, Gap: 300, Lift: 2000}
}

// points is a list of points, X and Y by turns.
func points(l ...int) []api.Point {
	out := []api.Point{}
	for i := 0; i < len(l); i += 2 {
		out = append(out, api.Point{X: l[i], Y: l[i+1]})
	}
	return out
}

func box(x1, y1, z1, x2, y2, z2 int) api.Box {
	return api.Box{X1: x1, Y1: y1, Z1: z1, X2: x2, Y2: y2, Z2: z2}
}

// house is a building of one storey.
func house(roof int, l ...int) api.Building {
	return api.Building{Name: "house", Roof: roof, Storeys: []api.Storey{{Outline: points(l...)}}}
}

// square is the house of the chapter's examples.
func square() api.Building { return house(4500, 0, 0, 4000, 0, 4000, 4000, 0, 4000) }

// theL is a house with an inner corner, at the beginning of facade 3.
func theL() api.Building {
	return house(4500, 0, 0, 9000, 0, 9000, 4000, 4000, 4000, 4000, 9000, 0, 9000)
}

// best is the best layout, and its proof, of what has one.
func best(t *testing.T, b api.Building, s api.System) (api.Layout, api.Proof) {
	t.Helper()
	l, p, e := layout.Best(b, s)
	if e != api.OK {
		t.Fatalf("Best: error %d", e)
	}
	return l, p
}

// same compares two values; a nil slice is as an empty one.
func same(a, b any) bool { return sameValue(reflect.ValueOf(a), reflect.ValueOf(b)) }

func sameValue(a, b reflect.Value) bool {
	if a.Kind() != b.Kind() || a.Kind() != reflect.Invalid && a.Type() != b.Type() {
		return false
	}
	switch a.Kind() {
	case reflect.Slice, reflect.Array:
		if a.Len() != b.Len() {
			return false
		}
		for i := range a.Len() {
			if !sameValue(a.Index(i), b.Index(i)) {
				return false
			}
		}
		return true
	case reflect.Struct:
		for i := range a.NumField() {
			if !sameValue(a.Field(i), b.Field(i)) {
				return false
			}
		}
		return true
	case reflect.Interface:
		return sameValue(a.Elem(), b.Elem())
	}
	return reflect.DeepEqual(a.Interface(), b.Interface())
}

// want compares what a call returns with what it should.
func want(t *testing.T, what string, got any, e api.Errno, right any, f api.Errno) {
	t.Helper()
	if e != f || !same(got, right) {
		t.Errorf("%s: %v, error %d; want %v, error %d", what, got, e, right, f)
	}
}

// wantError compares an error.
func wantError(t *testing.T, what string, e, right api.Errno) {
	t.Helper()
	if e != right {
		t.Errorf("%s: error %d, want %d", what, e, right)
	}
}

// ascending is n different numbers from 1 to most.
func ascending(d *rand.Rand, n, most int) []int {
	out := d.Perm(most)[:n]
	for i := range out {
		out[i]++
	}
	slices.Sort(out)
	return out
}

// someSystem is a system of small numbers, all lengths of which are multiples of the unit.
func someSystem(d *rand.Rand, unit int) api.System {
	s := api.System{Bays: ascending(d, 1+d.Intn(3), 7), Boards: ascending(d, d.Intn(3), 5), Width: 1 + d.Intn(4), Gap: d.Intn(3), Lift: 1 + d.Intn(4)}
	for _, l := range [][]int{s.Bays, s.Boards} {
		for i := range l {
			l[i] *= unit
		}
	}
	return s
}

// someHouse is a building of small numbers. Its lowest outline has one southern and one northern side over
// each place of an axis.
func someHouse(d *rand.Rand) api.Building {
	for {
		l := append(profile(d, -1), profile(d, 1)...)
		b := api.Building{Name: "some", Roof: 1 + d.Intn(9), Storeys: []api.Storey{{Outline: l}}}
		for range d.Intn(3) {
			x := api.Box{X1: d.Intn(50) - 10, Y1: d.Intn(50) - 25, Z1: d.Intn(12)}
			x.X2, x.Y2, x.Z2 = x.X1+1+d.Intn(5), x.Y1+1+d.Intn(5), x.Z1+1+d.Intn(5)
			b.Boxes = append(b.Boxes, x)
		}
		for range d.Intn(4) {
			b, _ = building.Turn(b)
		}
		if building.Check(b) == api.OK {
			return b
		}
	}
}

// profile is the corners from one end of an axis of 30 to the other, on one of its sides: to the east on
// side -1, back to the west on side 1.
func profile(d *rand.Rand, side int) []api.Point {
	steps := 1 + d.Intn(3)
	xs := append(append([]int{0}, ascending(d, steps-1, 29)...), 30)
	var out []api.Point
	y := 0
	for i := range steps {
		for before := y; y == before; {
			y = side * (1 + d.Intn(20))
		}
		out = append(out, points(xs[i], y, xs[i+1], y)...)
	}
	if side > 0 {
		for i := range out {
			out[i].X = 30 - out[i].X
		}
	}
	return out
}

// closings returns all closings of a length by parts of a system, one by one.
func closings(s api.System, length int) []api.Closing {
	var out []api.Closing
	for _, bays := range fillings(s.Bays, length, true) {
		for _, boards := range fillings(s.Boards, length-sum(bays), false) {
			out = append(out, api.Closing{Bays: bays, Boards: boards})
		}
	}
	return out
}

// fillings returns all descending lists of lengths that fill a length, or (open) that have room in it.
func fillings(lengths []int, room int, open bool) [][]int {
	if len(lengths) == 0 {
		if room == 0 || open {
			return [][]int{nil}
		}
		return nil
	}
	last := len(lengths) - 1
	var out [][]int
	var used []int
	for ; room >= 0; room -= lengths[last] {
		for _, rest := range fillings(lengths[:last], room, open) {
			out = append(out, append(slices.Clone(used), rest...))
		}
		used = append(used, lengths[last])
	}
	return out
}

func sum(l []int) int {
	n := 0
	for _, x := range l {
		n += x
	}
	return n
}

// costOf is the cost of a closing.
func costOf(s api.System, c api.Closing) api.Cost {
	out := api.Cost{Odd: len(c.Boards), Bays: len(c.Bays)}
	for _, n := range c.Bays {
		if n < slices.Max(s.Bays) {
			out.Odd++
		}
	}
	return out
}

func codeOf(c api.Cost) int { return c.Odd*10000 + c.Bays }

// leastCode is the least code of the closings of a length, or -1.
func leastCode(s api.System, length int) int {
	least := -1
	for _, c := range closings(s, length) {
		if n := codeOf(costOf(s, c)); least < 0 || n < least {
			least = n
		}
	}
	return least
}

// A span is where the run of a facade is: its start, its end on the same edge, and its length.
type span struct {
	from, to, outer api.Point // outer is opposite to the end
	length          int
}

// runOf reads a run off the parallel outlines: each of its ends is where one of them has its corner.
func runOf(t *testing.T, b api.Building, s api.System, facade, begin, end int) span {
	t.Helper()
	l := b.Storeys[0].Outline
	inner, e := building.Offset(l, s.Gap)
	outer, f := building.Offset(l, s.Gap+s.Width)
	bends, _ := building.Corners(l)
	if e != api.OK || f != api.OK {
		t.Fatalf("no parallel outlines: %d, %d", e, f)
	}
	next := (facade + 1) % len(l)
	from, to := inner[facade], inner[next]
	if bends[facade] == 1 == (begin == 1) {
		from = outer[facade]
	}
	if bends[next] == 1 == (end == 0) {
		to = outer[next]
	}
	w, _ := building.Walls(l)
	p, q := inner[facade], outer[facade]
	switch w[facade].Dir {
	case 0:
		return span{api.Point{X: from.X, Y: p.Y}, api.Point{X: to.X, Y: p.Y}, api.Point{X: to.X, Y: q.Y}, to.X - from.X}
	case 1:
		return span{api.Point{X: p.X, Y: from.Y}, api.Point{X: p.X, Y: to.Y}, api.Point{X: q.X, Y: to.Y}, to.Y - from.Y}
	case 2:
		return span{api.Point{X: from.X, Y: p.Y}, api.Point{X: to.X, Y: p.Y}, api.Point{X: to.X, Y: q.Y}, from.X - to.X}
	}
	return span{api.Point{X: p.X, Y: from.Y}, api.Point{X: p.X, Y: to.Y}, api.Point{X: q.X, Y: to.Y}, from.Y - to.Y}
}
