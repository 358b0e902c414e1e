package statics

import "putlog/api"

const (
	maxPascals = 100000
	maxArea    = 1000000000
	maxFaces   = 50 // decks, and faces
	maxWinds   = 100
	maxTimes   = 100 // the factor of a case
	million    = 1000000
)

// DeckLoads returns the loads of decks under a pressure.
func DeckLoads(f api.Frame, decks []api.Deck, pascals int) ([]api.Load, api.Errno) {
	if e := Check(f); e != api.OK {
		return nil, e
	}
	switch {
	case pascals < 0 || pascals > maxPascals:
		return nil, api.ErrRange
	case len(decks) > maxFaces:
		return nil, api.ErrLarge
	}
	var out []api.Load
	for _, d := range decks {
		if e := deckError(f, d, pascals); e != api.OK {
			return nil, e
		}
		k := quarter(d.Area, pascals)
		for _, n := range d.Nodes {
			out = append(out, api.Load{Node: n, Z: -k})
		}
	}
	return out, api.OK
}

func deckError(f api.Frame, d api.Deck, pascals int) api.Errno {
	switch {
	case !hasNodes(f, d.Nodes):
		return api.ErrMissing
	case d.Area < 0 || d.Area > maxArea:
		return api.ErrRange
	case quarter(d.Area, pascals) > api.MaxForce:
		return api.ErrLarge
	}
	return api.OK
}

// WindLoads returns the loads of wind on faces.
func WindLoads(f api.Frame, faces []api.Face, table []api.Wind) ([]api.Load, api.Errno) {
	if e := Check(f); e != api.OK {
		return nil, e
	}
	if e := windError(table); e != api.OK {
		return nil, e
	}
	if len(faces) > maxFaces {
		return nil, api.ErrLarge
	}
	var out []api.Load
	for _, face := range faces {
		pascals := pressureAt(table, face.Height)
		if e := faceError(f, face, pascals); e != api.OK {
			return nil, e
		}
		k := face.Sign * quarter(face.Area, pascals)
		for _, n := range face.Nodes {
			out = append(out, sideways(n, face.Axis, k))
		}
	}
	return out, api.OK
}

func windError(table []api.Wind) api.Errno {
	if len(table) > maxWinds {
		return api.ErrLarge
	}
	for i, w := range table {
		switch {
		case i > 0 && w.Height <= table[i-1].Height:
			return api.ErrOrder
		case w.Pascals < 0 || w.Pascals > maxPascals:
			return api.ErrRange
		}
	}
	return api.OK
}

func faceError(f api.Frame, face api.Face, pascals int) api.Errno {
	switch {
	case !hasNodes(f, face.Nodes):
		return api.ErrMissing
	case face.Area < 0 || face.Area > maxArea:
		return api.ErrRange
	case face.Axis != 0 && face.Axis != 1 || face.Sign != 1 && face.Sign != -1:
		return api.ErrRange
	case quarter(face.Area, pascals) > api.MaxForce:
		return api.ErrLarge
	}
	return api.OK
}

// pressureAt returns the pressure of a table at a height.
func pressureAt(table []api.Wind, height int) int {
	pascals := 0
	for _, w := range table {
		if w.Height <= height {
			pascals = w.Pascals
		}
	}
	return pascals
}

// sideways returns a load at a node in the direction of X or Y.
func sideways(node, axis, force int) api.Load {
	if axis == 0 {
		return api.Load{Node: node, X: force}
	}
	return api.Load{Node: node, Y: force}
}

func hasNodes(f api.Frame, nodes [4]int) bool {
	for _, n := range nodes {
		if !hasNode(f, n) {
			return false
		}
	}
	return true
}

// quarter returns what a pressure on an area puts on each of four nodes.
func quarter(area, pascals int) int { return ceiling(ceiling(area*pascals, million), 4) }

// ceiling returns n/by, rounded up; n is not negative.
func ceiling(n, by int) int { return (n + by - 1) / by }

// Gather returns the sum of cases, each one times its factor.
func Gather(cases [][]api.Load, factors []int) ([]api.Load, api.Errno) {
	if e := gatherError(cases, factors); e != api.OK {
		return nil, e
	}
	var sums [api.MaxJoints]api.Load
	for i, l := range cases {
		for _, load := range l {
			sum := &sums[load.Node]
			sum.X += factors[i] * load.X
			sum.Y += factors[i] * load.Y
			sum.Z += factors[i] * load.Z
		}
	}
	var out []api.Load
	for n, sum := range sums {
		if !isWithin(api.MaxForce, sum.X, sum.Y, sum.Z) {
			return nil, api.ErrLarge
		}
		if sum != (api.Load{}) {
			sum.Node = n
			out = append(out, sum)
		}
	}
	return out, api.OK
}

func gatherError(cases [][]api.Load, factors []int) api.Errno {
	switch {
	case len(cases) > api.MaxCases:
		return api.ErrLarge
	case len(factors) != len(cases):
		return api.ErrShape
	case !isWithin(maxTimes, factors...):
		return api.ErrRange
	}
	for _, l := range cases {
		if e := loadsError(api.MaxJoints, l); e != api.OK {
			return e
		}
	}
	return api.OK
}
