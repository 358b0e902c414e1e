package building_test

import (
	"math/rand"
	"reflect"
	"slices"
	"testing"

	"putlog/api"
)

// The tests call the exported functions only, and compare with shapes that are made of cells.

// dice is a repeatable row of chances.
func dice() *rand.Rand { return rand.New(rand.NewSource(7)) }

// points is a list of points, X and Y by turns.
func points(l ...int) []api.Point {
	out := []api.Point{}
	for i := 0; i < len(l); i += 2 {
		out = append(out, api.Point{X: l[i], Y: l[i+1]})
	}
	return out
}

func node(x, y, z int) api.Node { return api.Node{X: x, Y: y, Z: z} }

func box(x1, y1, z1, x2, y2, z2 int) api.Box {
	return api.Box{X1: x1, Y1: y1, Z1: z1, X2: x2, Y2: y2, Z2: z2}
}

func opening(storey, wall, from, to, bottom, top int) api.Opening {
	return api.Opening{Storey: storey, Wall: wall, From: from, To: to, Bottom: bottom, Top: top}
}

// theL is the outline of the chapter's examples.
func theL() []api.Point {
	return points(0, 0, 4000, 0, 4000, 2000, 2000, 2000, 2000, 4000, 0, 4000)
}

// rectangle is the outline of four corners.
func rectangle(x1, y1, x2, y2 int) []api.Point {
	return points(x1, y1, x2, y1, x2, y2, x1, y2)
}

// theHut is the building of the chapter's examples.
func theHut() api.Building {
	return api.Building{Name: "hut", Roof: 6000, Storeys: []api.Storey{
		{Floor: 0, Outline: theL()},
		{Floor: 3000, Outline: rectangle(0, 0, 2000, 4000)},
	}}
}

// comb is a valid outline of 4 n corners: a back with n teeth.
func comb(n int) []api.Point {
	out := points(0, 0, 200*n-100, 0)
	for x := 200*n - 100; x > 100; x -= 200 {
		out = append(out, points(x, 500, x-100, 500, x-100, 100, x-200, 100)...)
	}
	return append(out, points(100, 500, 0, 500)...)
}

// same compares two values; a nil slice is as an empty one.
func same(a, b any) bool { return sameValue(reflect.ValueOf(a), reflect.ValueOf(b)) }

func sameValue(a, b reflect.Value) bool {
	if a.Kind() != b.Kind() || a.Kind() != reflect.Invalid && a.Type() != b.Type() {
		return false
	}
	switch a.Kind() {
	case reflect.Slice:
		if a.Len() != b.Len() {
			return false
		}
		for i := range a.Len() {
			if !sameValue(a.Index(i), b.Index(i)) {
				return false
			}
		}
		return true
	case reflect.Struct:
		for i := range a.NumField() {
			if !sameValue(a.Field(i), b.Field(i)) {
				return false
			}
		}
		return true
	}
	return reflect.DeepEqual(a.Interface(), b.Interface())
}

// want compares what a call returns with what it should.
func want(t *testing.T, what string, got any, e api.Errno, right any, f api.Errno) {
	t.Helper()
	if e != f || !same(got, right) {
		t.Errorf("%s: %v, error %d; want %v, error %d", what, got, e, right, f)
	}
}

// wantError compares an error.
func wantError(t *testing.T, what string, e, right api.Errno) {
	t.Helper()
	if e != right {
		t.Errorf("%s: error %d, want %d", what, e, right)
	}
}

// A shape is a region that is made of the filled cells of a grid.
type shape struct {
	xs, ys []int
	filled [][]bool // by columns
}

// has reports whether a cell is filled; those beside the grid are not.
func (s shape) has(i, j int) bool {
	return i >= 0 && j >= 0 && i < len(s.filled) && j < len(s.filled[i]) && s.filled[i][j]
}

// hasHalf reports whether the point (x/2, y/2), which lies on no line of the grid, is in the shape.
func (s shape) hasHalf(x, y int) bool {
	for i := range s.filled {
		for j := range s.filled[i] {
			if s.filled[i][j] && 2*s.xs[i] < x && x < 2*s.xs[i+1] && 2*s.ys[j] < y && y < 2*s.ys[j+1] {
				return true
			}
		}
	}
	return false
}

// where is what Where should return: it looks at four points round p.
func (s shape) where(p api.Point) int {
	n := 0
	for _, d := range points(1, 1, 1, -1, -1, 1, -1, -1) {
		if s.hasHalf(2*p.X+d.X, 2*p.Y+d.Y) {
			n++
		}
	}
	switch n {
	case 0:
		return -1
	case 4:
		return 1
	}
	return 0
}

// area is the sum of the areas of the cells.
func (s shape) area() int {
	sum := 0
	for i := range s.filled {
		for j := range s.filled[i] {
			if s.filled[i][j] {
				sum += (s.xs[i+1] - s.xs[i]) * (s.ys[j+1] - s.ys[j])
			}
		}
	}
	return sum
}

// distance is the least squared distance of p from a cell.
func (s shape) distance(p api.Point) int {
	least := -1
	for i := range s.filled {
		for j := range s.filled[i] {
			if !s.filled[i][j] {
				continue
			}
			dx := max(s.xs[i]-p.X, p.X-s.xs[i+1], 0)
			dy := max(s.ys[j]-p.Y, p.Y-s.ys[j+1], 0)
			if d := dx*dx + dy*dy; least < 0 || d < least {
				least = d
			}
		}
	}
	return least
}

// outline goes round the shape from one of its corners on; ok is false if the shape has holes, parts that
// do not hang together, or parts that touch at a corner only.
func (s shape) outline(d *rand.Rand) (l []api.Point, ok bool) {
	next := map[[2]int][2]int{}
	lines := 0
	add := func(a, b [2]int) {
		next[a] = b
		lines++
	}
	for i := range s.filled {
		for j := range s.filled[i] {
			if !s.has(i, j) {
				continue
			}
			if !s.has(i, j-1) {
				add([2]int{i, j}, [2]int{i + 1, j})
			}
			if !s.has(i+1, j) {
				add([2]int{i + 1, j}, [2]int{i + 1, j + 1})
			}
			if !s.has(i, j+1) {
				add([2]int{i + 1, j + 1}, [2]int{i, j + 1})
			}
			if !s.has(i-1, j) {
				add([2]int{i, j + 1}, [2]int{i, j})
			}
		}
	}
	if lines == 0 || len(next) != lines {
		return nil, false
	}
	var start [2]int
	for i := range s.xs {
		for j := range s.ys {
			if _, is := next[[2]int{i, j}]; is {
				start = [2]int{i, j}
			}
		}
	}
	var all []api.Point
	at := start
	for range lines {
		all = append(all, api.Point{X: s.xs[at[0]], Y: s.ys[at[1]]})
		at = next[at]
		if at == start {
			break
		}
	}
	if len(all) != lines {
		return nil, false
	}
	for i, p := range all {
		a, b := all[(i+len(all)-1)%len(all)], all[(i+1)%len(all)]
		if (a.X == p.X) != (p.X == b.X) {
			l = append(l, p)
		}
	}
	k := d.Intn(len(l))
	return append(slices.Clone(l[k:]), l[:k]...), len(l) <= api.MaxCorners
}

// someShape is a shape on a grid of n by m cells within the coordinates from 0 to size, with its outline.
func someShape(d *rand.Rand, n, m, size int) (shape, []api.Point) {
	for {
		s := shape{xs: someLines(d, n, size), ys: someLines(d, m, size)}
		for range n {
			s.filled = append(s.filled, make([]bool, m))
		}
		s.grow(d, 1+d.Intn(n*m))
		if l, ok := s.outline(d); ok {
			return s, l
		}
	}
}

// grow fills cells beside filled ones.
func (s shape) grow(d *rand.Rand, tries int) {
	n, m := len(s.filled), len(s.filled[0])
	s.filled[d.Intn(n)][d.Intn(m)] = true
	for range tries * 3 {
		i, j := d.Intn(n), d.Intn(m)
		if s.has(i-1, j) || s.has(i+1, j) || s.has(i, j-1) || s.has(i, j+1) {
			s.filled[i][j] = true
		}
	}
}

// within is a shape whose cells are some of those of s, with its outline.
func (s shape) within(d *rand.Rand) (shape, []api.Point) {
	for {
		out := shape{xs: s.xs, ys: s.ys}
		for i := range s.filled {
			out.filled = append(out.filled, slices.Clone(s.filled[i]))
		}
		for range d.Intn(6) {
			out.filled[d.Intn(len(s.filled))][d.Intn(len(s.filled[0]))] = false
		}
		if l, ok := out.outline(d); ok {
			return out, l
		}
	}
}

// someLines is n + 1 ascending numbers from 0 to size.
func someLines(d *rand.Rand, n, size int) []int {
	out := d.Perm(size + 1)[:n+1]
	slices.Sort(out)
	return out
}

// A tower is a building with the shapes of its storeys.
type tower struct {
	building api.Building
	shapes   []shape
}

// someTower is a building of small numbers, with openings and boxes.
func someTower(d *rand.Rand) tower {
	out := tower{building: api.Building{Name: "some-Tower1"}}
	s, l := someShape(d, 2+d.Intn(4), 2+d.Intn(4), 12)
	z := 0
	for range 1 + d.Intn(4) {
		out.shapes = append(out.shapes, s)
		out.building.Storeys = append(out.building.Storeys, api.Storey{Floor: z, Outline: l})
		z += 1 + d.Intn(4)
		s, l = s.within(d)
	}
	out.building.Roof = z
	for range d.Intn(8) {
		if o := someOpening(d, out.building); o.From < o.To && o.Bottom < o.Top && !clashes(out.building.Openings, o) {
			out.building.Openings = append(out.building.Openings, o)
		}
	}
	for range d.Intn(8) {
		if x := someBox(d, 16); !out.holds(x) {
			out.building.Boxes = append(out.building.Boxes, x)
		}
	}
	return out
}

// top is the height where a storey ends.
func (t tower) top(i int) int {
	if i+1 < len(t.building.Storeys) {
		return t.building.Storeys[i+1].Floor
	}
	return t.building.Roof
}

// holds reports whether a unit cube within the box is in the tower.
func (t tower) holds(x api.Box) bool {
	for i, s := range t.building.Storeys {
		if x.Z1 >= t.top(i) || x.Z2 <= s.Floor {
			continue
		}
		for a := x.X1; a < x.X2; a++ {
			for b := x.Y1; b < x.Y2; b++ {
				if t.shapes[i].hasHalf(2*a+1, 2*b+1) {
					return true
				}
			}
		}
	}
	return false
}

// someOpening is an opening in a wall of the building, perhaps an empty one.
func someOpening(d *rand.Rand, b api.Building) api.Opening {
	i := d.Intn(len(b.Storeys))
	top := b.Roof
	if i+1 < len(b.Storeys) {
		top = b.Storeys[i+1].Floor
	}
	l := b.Storeys[i].Outline
	k := d.Intn(len(l))
	p, q := l[k], l[(k+1)%len(l)]
	length, height := max(p.X-q.X, q.X-p.X)+max(p.Y-q.Y, q.Y-p.Y), top-b.Storeys[i].Floor
	o := api.Opening{Storey: i, Wall: k, From: d.Intn(length), Bottom: d.Intn(height)}
	o.To = o.From + d.Intn(length-o.From+1)
	o.Top = o.Bottom + d.Intn(height-o.Bottom+1)
	return o
}

// clashes reports whether an opening has a unit square in common with another one of its wall.
func clashes(l []api.Opening, o api.Opening) bool {
	for _, p := range l {
		if p.Storey != o.Storey || p.Wall != o.Wall {
			continue
		}
		for a := o.From; a < o.To; a++ {
			for z := o.Bottom; z < o.Top; z++ {
				if p.From <= a && a < p.To && p.Bottom <= z && z < p.Top {
					return true
				}
			}
		}
	}
	return false
}

// someBox is a valid box near the place where towers stand.
func someBox(d *rand.Rand, size int) api.Box {
	x := api.Box{X1: d.Intn(size+4) - 4, Y1: d.Intn(size+4) - 4, Z1: d.Intn(size+4) - 4}
	x.X2, x.Y2, x.Z2 = x.X1+1+d.Intn(6), x.Y1+1+d.Intn(6), x.Z1+1+d.Intn(6)
	return x
}
