package statics_test

import (
	"math/big"
	"math/rand"
	"slices"
	"testing"

	"putlog/api"
	"putlog/statics"
)

// freeDirections are the places without a rigid support.
func freeDirections(f api.Frame) []int {
	out := []int{}
	for i := range places(f) {
		isHere := func(s api.Support) bool { return 3*s.Node+s.Axis == i && value(s.Flex).Sign() == 0 }
		if !slices.ContainsFunc(f.Supports, isHere) {
			out = append(out, i)
		}
	}
	return out
}

// form is the quadratic form of the stiffness.
func form(f api.Frame, x, u []*big.Rat) *big.Rat {
	sum := new(big.Rat)
	for i, b := range f.Bars {
		by := lengtheningOf(f, b, u)
		sum.Add(sum, by.Mul(by, by).Quo(by, value(b.Flex)))
		for k := range 3 {
			way := new(big.Rat).Sub(u[3*b.B+k], u[3*b.A+k])
			sum.Add(sum, way.Mul(way, way).Mul(way, x[i]))
		}
	}
	for _, s := range f.Supports {
		if value(s.Flex).Sign() > 0 {
			way := u[3*s.Node+s.Axis]
			way = new(big.Rat).Mul(way, way)
			sum.Add(sum, way.Quo(way, value(s.Flex)))
		}
	}
	return sum
}

// stiffnessOf is the matrix of the form, from its values on single directions and on pairs of them.
func stiffnessOf(f api.Frame, x []*big.Rat) [][]*big.Rat {
	free := freeDirections(f)
	on := func(at ...int) *big.Rat {
		u := zeros(places(f))
		for _, i := range at {
			u[i] = new(big.Rat).Add(u[i], big.NewRat(1, 1))
		}
		return form(f, x, u)
	}
	m := [][]*big.Rat{}
	for _, i := range free {
		row := []*big.Rat{}
		for _, j := range free {
			// on both, it is that of each one and twice the element
			v := on(i, j)
			v.Sub(v, on(i)).Sub(v, on(j))
			row = append(row, v.Quo(v, big.NewRat(2, 1)))
		}
		m = append(m, row)
	}
	return m
}

// isDefinite tells whether squares can be taken off a symmetric matrix one by one, all of them positive.
func isDefinite(m [][]*big.Rat) bool {
	for len(m) > 0 {
		first := m[0]
		if first[0].Sign() <= 0 {
			return false
		}
		rest := [][]*big.Rat{}
		for _, row := range m[1:] {
			by := new(big.Rat).Quo(row[0], first[0])
			rest = append(rest, plus(row[1:], scale(first[1:], by.Neg(by))))
		}
		m = rest
	}
	return true
}

// P5.8: the bracket, whose node 2 is free in X and Z.
func TestStabilityOfBracket(t *testing.T) {
	m, e := statics.Stiffness(theBracket(), list(0, 0, 0, 0, 0, 0, 0, 0, 0))
	want(t, "Stiffness", m, e, [][]api.Rat{list(18, -12), list(-12, 16)}, api.OK)
	x := list(-3, 3, 9, 0, 0, -9, 0, 12, 0)
	m, e = statics.Stiffness(theBracket(), x)
	want(t, "Stiffness with forces", m, e, [][]api.Rat{list(18, -12), list(-12, 16)}, api.OK)
	is, e := statics.Stable(theBracket(), x)
	want(t, "Stable", is, e, true, api.OK)
	x[0] = r(-8, 1)
	m, e = statics.Stiffness(theBracket(), x)
	want(t, "Stiffness with more pressure", m, e, [][]api.Rat{list(13, -12), list(-12, 11)}, api.OK)
	is, e = statics.Stable(theBracket(), x) // 13 * 11 is less than 144
	want(t, "Stable with more pressure", is, e, false, api.OK)
	is, e = statics.Stable(withoutSupport(theBracket(), 6), list(0, 0, 0, 0, 0, 0, 0, 0))
	want(t, "Stable without a support", is, e, false, api.OK)
	is, e = statics.Stable(withoutSupport(theBracket(), 6), list(0, 1, 0, 0, 0, 0, 0, 0))
	want(t, "Stable without a support, but with tension", is, e, true, api.OK)
}

// someForces are forces of a frame, mostly small.
func someForces(d *rand.Rand, f api.Frame) []*big.Rat {
	x := []*big.Rat{}
	size := 1 + d.Intn(4)
	for range elements(f) {
		x = append(x, big.NewRat(int64(d.Intn(2*size+1)-size), int64(1+d.Intn(5))))
	}
	return x
}

// P5.8: matrices of any frames and forces against the quadratic form, and whether they are definite.
func TestStability(t *testing.T) {
	d := dice()
	stable := 0
	for i := range 300 {
		f := someFrame(d, 5)
		if i%2 == 0 {
			f = firmFrame(d, 4)
		}
		x := someForces(d, f)
		right := stiffnessOf(f, x)
		m, e := statics.Stiffness(f, oddly(d, ratsOf(x)))
		want(t, "Stiffness", m, e, normals(right), api.OK)
		is, e := statics.Stable(f, oddly(d, ratsOf(x)))
		want(t, "Stable", is, e, isDefinite(right), api.OK)
		if is {
			stable++
		}
	}
	if stable < 75 || stable > 225 {
		t.Errorf("stable: %d", stable)
	}
}

// P5.8: at the very force at which a frame becomes unstable it is not stable; it is with any greater one,
// however little greater.
func TestStabilityAtTheLimit(t *testing.T) {
	tiny := new(big.Rat).SetFrac(big.NewInt(1), new(big.Int).Exp(big.NewInt(10), big.NewInt(40), nil))
	for _, flex := range []api.Rat{r(1, 3), r(3, 1), r(7, 11)} {
		// a bar between fixed nodes that a spring holds sideways: it gives way at the force -1/flex
		f := api.Frame{
			Nodes:    []api.Node{node(0, 0, 0), node(0, 0, 5)},
			Bars:     []api.Bar{bar(0, 1)},
			Supports: []api.Support{rigid(0, 0), rigid(0, 1), rigid(0, 2), {Node: 1, Axis: 0, Flex: flex}, rigid(1, 1), rigid(1, 2)},
		}
		least := value(flex)
		least.Inv(least).Neg(least)
		for _, c := range []struct {
			x  *big.Rat
			is bool
		}{
			{least, false},
			{new(big.Rat).Add(least, tiny), true},
			{new(big.Rat).Sub(least, tiny), false},
			{new(big.Rat).Add(least, big.NewRat(1, 1000)), true},
			{new(big.Rat).Sub(least, big.NewRat(1, 1000)), false},
		} {
			x := list(0, 0, 0, 0, 0, 0, 0)
			x[0] = ratOf(c.x)
			is, e := statics.Stable(f, x)
			want(t, "Stable at "+c.x.String(), is, e, c.is, api.OK)
		}
	}
}

// P5.8: the errors of forces, and frames without nodes, without elements and without free directions.
func TestStabilityOfLittle(t *testing.T) {
	for _, x := range [][]api.Rat{nil, list(1, 2), list(0, 0, 0, 0, 0, 0, 0, 0, 0, 0)} {
		m, e := statics.Stiffness(theBracket(), x)
		want(t, "Stiffness", m, e, nil2(), api.ErrShape)
		is, e := statics.Stable(theBracket(), x)
		want(t, "Stable", is, e, false, api.ErrShape)
	}
	m, e := statics.Stiffness(api.Frame{}, nil)
	want(t, "Stiffness without nodes", m, e, nil2(), api.OK)
	is, e := statics.Stable(api.Frame{}, nil)
	want(t, "Stable without nodes", is, e, true, api.OK)
	f := api.Frame{Nodes: []api.Node{{}}}
	m, e = statics.Stiffness(f, nil)
	want(t, "Stiffness of a node", m, e, [][]api.Rat{list(0, 0, 0), list(0, 0, 0), list(0, 0, 0)}, api.OK)
	is, e = statics.Stable(f, nil)
	want(t, "Stable node", is, e, false, api.OK)
	f.Supports = []api.Support{rigid(0, 0), {Node: 0, Axis: 1, Flex: r(2, 1)}, rigid(0, 2)}
	m, e = statics.Stiffness(f, list(5, 6, 7))
	want(t, "Stiffness of a spring", m, e, [][]api.Rat{{r(1, 2)}}, api.OK)
	f.Supports[1].Flex = r(0, 1)
	m, e = statics.Stiffness(f, list(5, 6, 7))
	want(t, "Stiffness of a fixed node", m, e, nil2(), api.OK)
	is, e = statics.Stable(f, list(5, 6, 7))
	want(t, "Stable fixed node", is, e, true, api.OK)
}

// P5.8: the largest frames, with the forces under loads, whose numbers are long.
func TestStabilityOfBigFrame(t *testing.T) {
	d := dice()
	f := bigFrame(d, 2001)
	l := someLoads(d, f, 50)
	x, e := statics.Forces(f, l)
	wantError(t, "Forces", e, api.OK)
	is, e := statics.Stable(f, x)
	want(t, "Stable", is, e, true, api.OK)
	for i := range f.Bars {
		x[i] = ratOf(new(big.Rat).Sub(value(x[i]), big.NewRat(1000000000, 1)))
	}
	is, e = statics.Stable(f, x)
	want(t, "Stable under great pressure", is, e, false, api.OK)
}
