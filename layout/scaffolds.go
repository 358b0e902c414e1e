package layout

import (
	"cmp"
	"slices"

	"putlog/api"
)

// braceEvery says that each fifth part of a run is braced, from the first one on.
const braceEvery = 5

// Scaffold returns the scaffold of a layout.
func Scaffold(b api.Building, s api.System, l api.Layout) (api.Scaffold, api.Errno) {
	r, e := ringWithLayout(b, s, l)
	if e != api.OK {
		return api.Scaffold{}, e
	}
	rows := r.rows(l)
	f := frame{levels: r.levels, columns: columns(rows)}
	if len(f.columns)*len(f.levels) > api.MaxNodes {
		return api.Scaffold{}, api.ErrLarge
	}
	for _, row := range rows {
		f.addRun(f.numbers(row[0]), f.numbers(row[1]))
	}
	members := f.ordered()
	if len(members) > api.MaxMembers {
		return api.Scaffold{}, api.ErrLarge
	}
	return api.Scaffold{Nodes: f.nodes(), Members: members}, api.OK
}

// A row is the points of a run at the boundaries of its parts: those of its inner edge, and of its outer one.
type row [2][]api.Point

// rows returns the rows of the runs that are not empty.
func (r ring) rows(l api.Layout) []row {
	var out []row
	for i, run := range l.Runs {
		if run.Length == 0 {
			continue
		}
		var edges row
		for _, along := range r.boundaries(l, i) {
			edges[0] = append(edges[0], r.place(i, along, r.inner()))
			edges[1] = append(edges[1], r.place(i, along, r.outer()))
		}
		out = append(out, edges)
	}
	return out
}

// columns returns the points of all rows, ascending, each once.
func columns(rows []row) []api.Point {
	var out []api.Point
	for _, r := range rows {
		out = append(append(out, r[0]...), r[1]...)
	}
	slices.SortFunc(out, comparePoints)
	return slices.Compact(out)
}

func comparePoints(p, q api.Point) int {
	return cmp.Or(cmp.Compare(p.X, q.X), cmp.Compare(p.Y, q.Y))
}

// A frame is a scaffold that is being made: it has a node at each level of each column.
type frame struct {
	levels  []int
	columns []api.Point
	members []api.Member
}

// nodes returns all nodes, column by column.
func (f *frame) nodes() []api.Node {
	var out []api.Node
	for _, p := range f.columns {
		for _, z := range f.levels {
			out = append(out, api.Node{X: p.X, Y: p.Y, Z: z})
		}
	}
	return out
}

// numbers returns the numbers of the lowest nodes at points.
func (f *frame) numbers(points []api.Point) []int {
	out := make([]int, len(points))
	for i, p := range points {
		column, _ := slices.BinarySearchFunc(f.columns, p, comparePoints)
		out[i] = column * len(f.levels)
	}
	return out
}

// ordered returns the members in their order, each once.
func (f *frame) ordered() []api.Member {
	slices.SortFunc(f.members, func(m, n api.Member) int {
		return cmp.Or(cmp.Compare(m.Kind, n.Kind), cmp.Compare(m.A, n.A), cmp.Compare(m.B, n.B))
	})
	return slices.Compact(f.members)
}

// add adds a member that leads from the lower number to the higher one.
func (f *frame) add(kind, a, b int) {
	f.members = append(f.members, api.Member{Kind: kind, A: min(a, b), B: max(a, b)})
}

// addRun adds the members of a run, of whose edges the numbers of the lowest nodes are given. The nodes
// above a node have the numbers that follow.
func (f *frame) addRun(inner, outer []int) {
	top := len(f.levels) - 1
	for z := range f.levels {
		if z < top {
			f.addStandards(inner, z)
			f.addStandards(outer, z)
			f.addBraces(outer, z)
		}
		if z > 0 {
			f.addRows(api.KindLedger, inner, z)
			f.addRows(api.KindLedger, outer, z)
			f.addCrossings(api.KindTransom, inner, outer, z)
		}
		if z > 0 && z < top {
			f.addDecks(inner, outer, z)
			f.add(api.KindLadder, outer[0]+z-1, outer[0]+z)
		}
	}
	for i := range inner {
		f.add(api.KindBase, inner[i], inner[i])
		f.add(api.KindBase, outer[i], outer[i])
	}
}

// addStandards adds the standards from a level to the next one.
func (f *frame) addStandards(edge []int, z int) {
	for _, n := range edge {
		f.add(api.KindStandard, n+z, n+z+1)
	}
}

// addBraces adds the braces from a level to the next one. They lead upwards, whichever number is less.
func (f *frame) addBraces(edge []int, z int) {
	for i := 0; i+1 < len(edge); i += braceEvery {
		f.members = append(f.members, api.Member{Kind: api.KindBrace, A: edge[i] + z, B: edge[i+1] + z + 1})
	}
}

// addRows adds members between following boundaries.
func (f *frame) addRows(kind int, edge []int, z int) {
	for i := 1; i < len(edge); i++ {
		f.add(kind, edge[i-1]+z, edge[i]+z)
	}
}

// addCrossings adds members between the edges.
func (f *frame) addCrossings(kind int, inner, outer []int, z int) {
	for i := range inner {
		f.add(kind, inner[i]+z, outer[i]+z)
	}
}

// addDecks adds the decks of a level, and what protects them.
func (f *frame) addDecks(inner, outer []int, z int) {
	for i := 1; i < len(inner); i++ {
		// Of the four corners, the one with the least X and Y has the least number, the opposite one the greatest.
		f.add(api.KindDeck, min(inner[i-1], inner[i], outer[i-1], outer[i])+z, max(inner[i-1], inner[i], outer[i-1], outer[i])+z)
	}
	ends := []int{0, len(inner) - 1}
	for _, kind := range []int{api.KindGuardrail, api.KindToeBoard} {
		f.addRows(kind, outer, z)
		for _, i := range ends {
			f.add(kind, inner[i]+z, outer[i]+z)
		}
	}
}
