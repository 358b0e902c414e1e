package statics_test

import (
	"math/big"
	"testing"

	"putlog/api"
	"putlog/statics"
)

// P5.4: forces, displacements and energy of the bracket.
func TestForcesOfBracket(t *testing.T) {
	f, l := theBracket(), theLoad()
	right := list(-3, 3, 9, 0, 0, -9, 0, 12, 0)
	x, e := statics.Forces(f, l)
	want(t, "Forces", x, e, right, api.OK)
	wantError(t, "CheckForces", statics.CheckForces(f, l, right), api.OK)
	u, x, e := statics.Displace(f, l)
	motion := append(list(0, 0, 0, 0, 0, 0, -1, 0), r(-3, 2))
	want(t, "Displace", [][]api.Rat{u, x}, e, [][]api.Rat{motion, right}, api.OK)
	energy, e := statics.Energy(f, x)
	want(t, "Energy", energy, e, r(9, 1), api.OK)
}

// P5.4: without a support the bracket is not firm, but carries its load.
func TestForcesWithoutSupport(t *testing.T) {
	f := withoutSupport(theBracket(), 6)
	right := list(-3, 3, 9, 0, 0, -9, 0, 12)
	x, e := statics.Forces(f, theLoad())
	want(t, "Forces", x, e, right, api.OK)
	u, x, e := statics.Displace(f, theLoad())
	want(t, "Displace", [][]api.Rat{u, x}, e, [][]api.Rat{nil, nil}, api.ErrLoose)
	x, e = statics.Forces(f, loads(load(2, 0, 5, 0)))
	want(t, "Forces of another load", x, e, nil2(), api.ErrLoose)
	wantError(t, "CheckForces of another load", statics.CheckForces(f, loads(load(2, 0, 5, 0)), right), api.ErrProof)
	wantError(t, "too few", statics.CheckForces(f, loads(load(2, 0, 5, 0)), right[1:]), api.ErrShape)
}

// P5.4: a node between two springs and on a bar: the stiffer ones take more.
func TestForcesOfSprings(t *testing.T) {
	spring := func(axis int, flex api.Rat) api.Support { return api.Support{Node: 0, Axis: axis, Flex: flex} }
	f := api.Frame{
		Nodes:    []api.Node{node(0, 0, 0), node(2, 0, 0)},
		Bars:     []api.Bar{{A: 0, B: 1, Flex: r(1, 1)}},
		Supports: []api.Support{spring(0, r(1, 4)), spring(1, r(1, 2)), rigid(0, 2), rigid(1, 0), rigid(1, 1), rigid(1, 2)},
	}
	// The bar has the stiffness 2*2/1, as the spring: each takes half of 8 newtons. The other spring gives way by 3.
	u, x, e := statics.Displace(f, loads(load(0, 8, 6, 7)))
	right := [][]api.Rat{list(1, 3, 0, 0, 0, 0), list(-2, -4, -6, -7, -4, 0, 0)}
	want(t, "Displace", [][]api.Rat{u, x}, e, right, api.OK)
	energy, e := statics.Energy(f, x)
	want(t, "Energy", energy, e, r(2+2+9, 1), api.OK)
}

// P5.4: forces against their definition by stresses, for loads that are carried or not.
func TestForces(t *testing.T) {
	d := dice()
	carried, loose := 0, 0
	for i := range 500 {
		f := someFrame(d, 6)
		l := someLoads(d, f, 3)
		if i%2 == 0 {
			l = carriedLoads(d, f)
		}
		right := forcesOf(f, l)
		x, e := statics.Forces(f, l)
		if right == nil {
			want(t, "Forces", x, e, nil2(), api.ErrLoose)
			wantError(t, "CheckForces", statics.CheckForces(f, l, make([]api.Rat, elements(f))), api.ErrProof)
			loose++
			continue
		}
		carried++
		want(t, "Forces", x, e, ratsOf(right), api.OK)
		wantError(t, "CheckForces", statics.CheckForces(f, l, oddly(d, x)), api.OK)
		if len(x) > 0 {
			wantError(t, "CheckForces of others", statics.CheckForces(f, l, changed(d, x)), api.ErrProof)
		}
		wantError(t, "CheckForces of more", statics.CheckForces(f, l, append(x, r(0, 1))), api.ErrShape)
		for _, s := range kernelOf(matrixOf(f), elements(f)) {
			wantError(t, "CheckForces with a stress", statics.CheckForces(f, l, ratsOf(plus(right, s))), api.ErrProof)
		}
	}
	if carried < 150 || loose < 50 {
		t.Errorf("carried %d, loose %d", carried, loose)
	}
}

// wantDisplaced checks displacements and forces against their definition.
func wantDisplaced(t *testing.T, f api.Frame, l []api.Load, u, x []*big.Rat) {
	t.Helper()
	if len(u) != places(f) || !isBalanced(f, x, vectorOf(f, l)) {
		t.Fatalf("Displace(%v, %v): %v, %v", f, l, u, x)
	}
	for i, flex := range flexes(f) {
		by := new(big.Rat).Mul(flex, x[i])
		if i < len(f.Bars) && lengtheningOf(f, f.Bars[i], u).Cmp(by) != 0 {
			t.Errorf("Displace(%v, %v): bar %d", f, l, i)
		}
		if s := i - len(f.Bars); s >= 0 && u[3*f.Supports[s].Node+f.Supports[s].Axis].Cmp(by.Neg(by)) != 0 {
			t.Errorf("Displace(%v, %v): support %d", f, l, s)
		}
	}
}

// P5.4: displacements against their definition, of frames that are firm or not.
func TestDisplace(t *testing.T) {
	d := dice()
	firm, loose := 0, 0
	for i := range 500 {
		f := someFrame(d, 6)
		if i%2 == 0 {
			f = firmFrame(d, 5)
		}
		l := someLoads(d, f, 3)
		u, x, e := statics.Displace(f, l)
		if len(kernelOf(turned(matrixOf(f), elements(f)), places(f))) > 0 {
			want(t, "Displace", [][]api.Rat{u, x}, e, [][]api.Rat{nil, nil}, api.ErrLoose)
			loose++
			continue
		}
		firm++
		wantDisplaced(t, f, l, values(u), values(x))
		want(t, "Displace", [][]api.Rat{u, x}, e, [][]api.Rat{ratsOf(values(u)), ratsOf(forcesOf(f, l))}, api.OK)
	}
	if firm < 250 || loose < 100 {
		t.Errorf("firm %d, loose %d", firm, loose)
	}
}

// P5.4: frames with the most nodes, bars and supports, which have 60 free directions, and with fewer of them.
func TestDisplaceOfBigFrames(t *testing.T) {
	d := dice()
	f := bigFrame(d, 9)
	for range 2 {
		l := someLoads(d, f, 30)
		u, x, e := statics.Displace(f, l)
		wantError(t, "Displace", e, api.OK)
		wantDisplaced(t, f, l, values(u), values(x))
		for i := 0; i < len(f.Supports); i += 3 {
			f.Supports[i].Flex = r(0, 1)
		}
	}
}

// P5.4: the energy against its definition, of any forces.
func TestEnergy(t *testing.T) {
	d := dice()
	for range 200 {
		f := someFrame(d, 5)
		sum := new(big.Rat)
		x := []api.Rat{}
		for _, flex := range flexes(f) {
			y := big.NewRat(int64(d.Intn(9)-4), int64(1+d.Intn(9)))
			x = append(x, ratOf(y))
			sum.Add(sum, flex.Mul(flex, y.Mul(y, y)))
		}
		energy, e := statics.Energy(f, oddly(d, x))
		want(t, "Energy", energy, e, ratOf(sum.Quo(sum, big.NewRat(2, 1))), api.OK)
		energy, e = statics.Energy(f, append(x, r(1, 1)))
		want(t, "Energy of more", energy, e, api.Rat{}, api.ErrShape)
		if len(x) > 0 {
			energy, e = statics.Energy(f, x[1:])
			want(t, "Energy of fewer", energy, e, api.Rat{}, api.ErrShape)
		}
	}
}

// P5.4: frames without nodes, without elements, and without a free direction.
func TestForcesOfLittle(t *testing.T) {
	u, x, e := statics.Displace(api.Frame{}, nil)
	want(t, "Displace without nodes", [][]api.Rat{u, x}, e, [][]api.Rat{nil, nil}, api.OK)
	energy, e := statics.Energy(api.Frame{}, nil)
	want(t, "Energy without nodes", energy, e, r(0, 1), api.OK)
	f := api.Frame{Nodes: []api.Node{{}}}
	x, e = statics.Forces(f, loads(load(0, 0, 0, 0)))
	want(t, "Forces of a node", x, e, nil2(), api.OK)
	x, e = statics.Forces(f, loads(load(0, 0, 0, 1)))
	want(t, "Forces of a loaded node", x, e, nil2(), api.ErrLoose)
	_, _, e = statics.Displace(f, nil)
	wantError(t, "Displace of a node", e, api.ErrLoose)
	f.Supports = []api.Support{rigid(0, 2), rigid(0, 0), rigid(0, 1)}
	u, x, e = statics.Displace(f, loads(load(0, 1, 2, 3), load(0, 1, 1, 1)))
	want(t, "Displace of a fixed node", [][]api.Rat{u, x}, e, [][]api.Rat{list(0, 0, 0), list(-4, -2, -3)}, api.OK)
}
