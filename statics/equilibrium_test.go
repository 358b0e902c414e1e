package statics_test

import (
	"math/big"
	"testing"

	"putlog/api"
	"putlog/statics"
)

// ints are a matrix of whole numbers.
func ints(m [][]*big.Rat) [][]int {
	out := [][]int{}
	for _, row := range m {
		line := []int{}
		for _, x := range row {
			line = append(line, int(x.Num().Int64()))
		}
		out = append(out, line)
	}
	return out
}

// normals are lists in normal form.
func normals(m [][]*big.Rat) [][]api.Rat {
	out := [][]api.Rat{}
	for _, row := range m {
		out = append(out, ratsOf(row))
	}
	return out
}

// P5.2: the matrix of the bracket.
func TestMatrixOfBracket(t *testing.T) {
	m, e := statics.Matrix(theBracket())
	want(t, "Matrix", m, e, [][]int{
		{3, 0, 1, 0, 0, 0, 0, 0, 0},
		{0, 0, 0, 1, 0, 0, 0, 0, 0},
		{0, 0, 0, 0, 1, 0, 0, 0, 0},
		{0, 3, 0, 0, 0, 1, 0, 0, 0},
		{0, 0, 0, 0, 0, 0, 1, 0, 0},
		{0, -4, 0, 0, 0, 0, 0, 1, 0},
		{-3, -3, 0, 0, 0, 0, 0, 0, 0},
		{0, 0, 0, 0, 0, 0, 0, 0, 1},
		{0, 4, 0, 0, 0, 0, 0, 0, 0},
	}, api.OK)
	n, e := statics.Count(theBracket())
	want(t, "Count", n, e, api.Counting{Rank: 9}, api.OK)
	basis, e := statics.Stresses(theBracket())
	want(t, "Stresses", basis, e, nil2(), api.OK)
	basis, e = statics.Motions(theBracket())
	want(t, "Motions", basis, e, nil2(), api.OK)
}

// P5.2: a mechanism, and a redundant bar.
func TestCountOfChanges(t *testing.T) {
	f := withoutSupport(theBracket(), 6)
	n, e := statics.Count(f)
	want(t, "Count without a support", n, e, api.Counting{Rank: 8, Mechanisms: 1}, api.OK)
	basis, e := statics.Motions(f)
	want(t, "Motions without a support", basis, e, [][]api.Rat{list(0, 0, 0, 0, 0, 0, 0, 1, 0)}, api.OK)
	f = theBracket()
	f.Bars = append(f.Bars, bar(0, 1))
	n, e = statics.Count(f)
	want(t, "Count with a bar", n, e, api.Counting{Rank: 9, Redundant: 1}, api.OK)
	basis, e = statics.Stresses(f)
	// The new bar pushes between the supports in Z of the nodes 0 and 1; the latter is the free column.
	want(t, "Stresses with a bar", basis, e, [][]api.Rat{
		{r(0, 1), r(0, 1), r(1, 4), r(0, 1), r(0, 1), r(-1, 1), r(0, 1), r(0, 1), r(1, 1), r(0, 1)},
	}, api.OK)
}

// P5.2: matrices, ranks and both bases, against their definitions.
func TestEquilibrium(t *testing.T) {
	d := dice()
	for range 400 {
		f := someFrame(d, 6)
		right := matrixOf(f)
		m, e := statics.Matrix(f)
		want(t, "Matrix", m, e, ints(right), api.OK)
		stresses := kernelOf(right, elements(f))
		motions := kernelOf(turned(right, elements(f)), places(f))
		basis, e := statics.Stresses(f)
		want(t, "Stresses", basis, e, normals(stresses), api.OK)
		basis, e = statics.Motions(f)
		want(t, "Motions", basis, e, normals(motions), api.OK)
		n, e := statics.Count(f)
		rank := elements(f) - len(stresses)
		want(t, "Count", n, e, api.Counting{Rank: rank, Redundant: len(stresses), Mechanisms: len(motions)}, api.OK)
	}
}

// P5.2: frames with the most elements, which are more than package exact takes as columns.
func TestEquilibriumOfBigFrames(t *testing.T) {
	d := dice()
	f := bigFrame(d, 9)
	for _, supports := range []int{60, 32, 4} {
		f.Supports = f.Supports[:supports]
		basis, e := statics.Stresses(f)
		want(t, "Stresses", basis, e, normals(kernelOf(matrixOf(f), elements(f))), api.OK)
		basis, e = statics.Motions(f)
		want(t, "Motions", basis, e, normals(kernelOf(turned(matrixOf(f), elements(f)), places(f))), api.OK)
	}
}

// P5.2: what the chapter says of frames without nodes, and without elements.
func TestEquilibriumOfLittle(t *testing.T) {
	m, e := statics.Matrix(api.Frame{})
	want(t, "Matrix", m, e, [][]int{}, api.OK)
	n, e := statics.Count(api.Frame{})
	want(t, "Count", n, e, api.Counting{}, api.OK)
	basis, e := statics.Stresses(api.Frame{})
	want(t, "Stresses", basis, e, nil2(), api.OK)
	basis, e = statics.Motions(api.Frame{})
	want(t, "Motions", basis, e, nil2(), api.OK)
	f := api.Frame{Nodes: []api.Node{node(1, 2, 3)}}
	m, e = statics.Matrix(f)
	want(t, "Matrix of a node", m, e, [][]int{{}, {}, {}}, api.OK)
	n, e = statics.Count(f)
	want(t, "Count of a node", n, e, api.Counting{Mechanisms: 3}, api.OK)
	basis, e = statics.Stresses(f)
	want(t, "Stresses of a node", basis, e, nil2(), api.OK)
	basis, e = statics.Motions(f)
	want(t, "Motions of a node", basis, e, [][]api.Rat{list(1, 0, 0), list(0, 1, 0), list(0, 0, 1)}, api.OK)
	f.Supports = []api.Support{rigid(0, 1)}
	basis, e = statics.Motions(f)
	want(t, "Motions of a held node", basis, e, [][]api.Rat{list(1, 0, 0), list(0, 0, 1)}, api.OK)
	f.Supports = []api.Support{rigid(0, 1), rigid(0, 0), rigid(0, 2)}
	basis, e = statics.Motions(f)
	want(t, "Motions of a fixed node", basis, e, nil2(), api.OK)
}
