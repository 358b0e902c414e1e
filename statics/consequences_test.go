package statics_test

import (
	"math/big"
	"testing"

	"putlog/api"
	"putlog/statics"
)

// P5.10: loads are carried, or a free motion takes work from them, never both.
func TestCarriedOrMoved(t *testing.T) {
	d := dice()
	for range 300 {
		f := someFrame(d, 6)
		l := someLoads(d, f, 3)
		reply, e := statics.Carry(f, l)
		wantError(t, "Carry", e, api.OK)
		moved := false
		motions, _ := statics.Motions(f)
		for _, u := range motions {
			moved = moved || dot(values(u), vectorOf(f, l)).Sign() != 0
		}
		_, e = statics.Forces(f, l)
		if moved != (reply.Kind == 1) || moved != (e == api.ErrLoose) {
			t.Errorf("Carry(%v, %v): %v, and Forces: error %d", f, l, reply, e)
		}
		n, _ := statics.Count(f)
		is, _ := statics.Stable(f, ratsOf(zeros(elements(f))))
		_, _, e = statics.Displace(f, l)
		firm := n.Mechanisms == 0
		if firm != (len(motions) == 0) || firm != is || firm != (e == api.OK) || firm && moved {
			t.Errorf("firm: Count %v, Motions %v, Stable %v, Displace %d", n, motions, is, e)
		}
	}
}

// P5.10: the forces by stresses, which the loads' basic solution and the stresses tell, and those of the
// displacements are the same.
func TestTwoMethods(t *testing.T) {
	d := dice()
	for range 200 {
		f := firmFrame(d, 5)
		l := someLoads(d, f, 4)
		_, x, e := statics.Displace(f, l)
		right, g := statics.Forces(f, l)
		want(t, "Displace", x, e, right, g)
		reply, _ := statics.Carry(f, l)
		stresses, _ := statics.Stresses(f)
		rest := plus(values(x), scale(values(reply.Forces), big.NewRat(-1, 1)))
		// the difference is a sum of stresses, on which the lengthenings do no work
		m := [][]*big.Rat{}
		for _, s := range stresses {
			m = append(m, values(s))
			sum := new(big.Rat)
			for i, flex := range flexes(f) {
				sum.Add(sum, flex.Mul(flex, new(big.Rat).Mul(value(x[i]), value(s[i]))))
			}
			want(t, "the work on a stress", sum.Sign(), 0, 0, 0)
		}
		if solutionOf(turned(m, elements(f)), rest, len(m)) == nil {
			t.Errorf("Displace(%v, %v): %v is no basic solution with stresses", f, l, x)
		}
	}
}

// P5.11: forces add up, also as Gather adds loads.
func TestForcesAddUp(t *testing.T) {
	d := dice()
	for range 200 {
		f := someFrame(d, 5)
		a, b := carriedLoads(d, f), carriedLoads(d, f)
		x, _ := statics.Forces(f, a)
		y, _ := statics.Forces(f, b)
		sum, e := statics.Forces(f, append(append([]api.Load{}, a...), b...))
		want(t, "Forces", sum, e, ratsOf(plus(values(x), values(y))), api.OK)
		l, e := statics.Gather([][]api.Load{a, b}, []int{2, -3})
		wantError(t, "Gather", e, api.OK)
		sum, e = statics.Forces(f, l)
		want(t, "Forces of gathered loads", sum, e, ratsOf(plus(scale(values(x), big.NewRat(2, 1)), scale(values(y), big.NewRat(-3, 1)))), api.OK)
	}
}

// P5.11: the forces have the least energy of all that are in equilibrium.
func TestLeastEnergy(t *testing.T) {
	d := dice()
	for range 200 {
		f := someFrame(d, 5)
		x, _ := statics.Forces(f, carriedLoads(d, f))
		least, e := statics.Energy(f, x)
		wantError(t, "Energy", e, api.OK)
		stresses, _ := statics.Stresses(f)
		for _, s := range stresses {
			by := big.NewRat(int64(1-2*d.Intn(2)), int64(1+d.Intn(100)))
			more, e := statics.Energy(f, ratsOf(plus(values(x), scale(values(s), by))))
			if value(more).Cmp(value(least)) <= 0 || e != api.OK {
				t.Errorf("Energy of %v with the stress %v: %v, error %d", x, s, more, e)
			}
		}
	}
}

// P5.11: Maxwell and Betti, and the work of loads on their own displacements.
func TestWork(t *testing.T) {
	d := dice()
	for range 200 {
		f := firmFrame(d, 5)
		a, b := someLoads(d, f, 3), someLoads(d, f, 3)
		u, x, _ := statics.Displace(f, a)
		v, _, _ := statics.Displace(f, b)
		on := func(l []api.Load, u []api.Rat) *big.Rat { return dot(vectorOf(f, l), values(u)) }
		want(t, "the work on the others' displacements", on(a, v), 0, on(b, u), 0)
		energy, e := statics.Energy(f, x)
		want(t, "Energy", energy, e, ratOf(on(a, u).Mul(on(a, u), big.NewRat(1, 2))), api.OK)
	}
}

// P5.12: no combination of cases leaves the range of an element.
func TestRangesHold(t *testing.T) {
	d := dice()
	for range 100 {
		f := someFrame(d, 5)
		cases := someCases(d, f, 5)
		worst, e := statics.Worst(f, cases)
		wantError(t, "Worst", e, api.OK)
		factors := []int{}
		for range cases {
			factors = append(factors, d.Intn(2))
		}
		l, _ := statics.Gather(cases, factors)
		x, e := statics.Forces(f, l)
		wantError(t, "Forces", e, api.OK)
		for i, y := range values(x) {
			if y.Cmp(value(worst[i].Range.Low)) < 0 || y.Cmp(value(worst[i].Range.High)) > 0 {
				t.Errorf("element %d: %v is not within %v", i, y, worst[i])
			}
		}
	}
}

// P5.12: the forces under the loads reach the limits no later than the collapse does.
func TestFactorIsGreatest(t *testing.T) {
	d := dice()
	more := 0
	for range 300 {
		f := someFrame(d, 5)
		l := carriedLoads(d, f)
		limits := someLimits(d, len(f.Bars))
		c, e := statics.LimitLoad(f, l, limits)
		if e == api.ErrNone {
			continue
		}
		wantError(t, "LimitLoad", e, api.OK)
		x, _ := statics.Forces(f, l)
		for range 5 {
			by := big.NewRat(int64(d.Intn(8)), int64(1+d.Intn(4)))
			n, e := statics.Strong(f, ratsOf(scale(values(x), by)), limits)
			if e != api.OK || n < 0 && by.Cmp(value(c.Factor)) > 0 {
				t.Errorf("LimitLoad(%v, %v, %v): %v, but the forces hold %v times the loads", f, l, limits, c, by)
			}
			if n < 0 && by.Sign() > 0 {
				more++
			}
		}
	}
	if more < 20 {
		t.Errorf("only %d forces within limits", more)
	}
}
