package statics_test

import (
	"math/big"
	"math/rand"
	"testing"

	"putlog/api"
	"putlog/statics"
)

// isCollapse tells whether c is one, by the definition.
func isCollapse(f api.Frame, l []api.Load, limits []api.Range, c api.Collapse) bool {
	x, u, p := values(c.Forces), values(c.Motion), vectorOf(f, l)
	if len(x) != elements(f) || len(u) != places(f) {
		return false
	}
	if !isBalanced(f, x, scale(p, value(c.Factor))) || dot(p, u).Cmp(big.NewRat(1, 1)) != 0 {
		return false
	}
	for _, s := range f.Supports {
		if u[3*s.Node+s.Axis].Sign() != 0 {
			return false
		}
	}
	sum := new(big.Rat)
	for i, b := range f.Bars {
		low, high := value(limits[i].Low), value(limits[i].High)
		if x[i].Cmp(low) < 0 || x[i].Cmp(high) > 0 {
			return false
		}
		by := lengtheningOf(f, b, u)
		low.Mul(low, by)
		if high.Mul(high, by); low.Cmp(high) > 0 {
			high = low
		}
		sum.Add(sum, high)
	}
	return sum.Cmp(value(c.Factor)) == 0
}

// wantCollapse checks what LimitLoad returns, and returns it.
func wantCollapse(t *testing.T, f api.Frame, l []api.Load, limits []api.Range) api.Collapse {
	t.Helper()
	c, e := statics.LimitLoad(f, l, limits)
	if e != api.OK || !isCollapse(f, l, limits, c) || !same(c.Factor, ratOf(value(c.Factor))) ||
		!same(c.Forces, ratsOf(values(c.Forces))) || !same(c.Motion, ratsOf(values(c.Motion))) {
		t.Errorf("LimitLoad(%v, %v, %v): %v, error %d", f, l, limits, c, e)
	}
	wantError(t, "CheckCollapse", statics.CheckCollapse(f, l, limits, c), api.OK)
	return c
}

// P5.7: the bracket with the limits of the examples: x0 = -1 is reached first.
func TestLimitLoadOfBracket(t *testing.T) {
	f, l := theBracket(), theLoad()
	c := wantCollapse(t, f, l, theLimits())
	motion := list(0, 0, 0, 0, 0, 0, 0, 0, 0)
	motion[6], motion[8] = r(-1, 9), r(-1, 12)
	// the bar 0 becomes shorter by 1/3: -3/9; the bar 1 stays: -3/9 + 4/12
	right := api.Collapse{Factor: r(1, 3), Forces: list(-1, 1, 3, 0, 0, -3, 0, 4, 0), Motion: motion}
	want(t, "LimitLoad", c, 0, right, 0)
}

// P5.7: other limits of the bracket.
func TestLimitLoadOfLimits(t *testing.T) {
	f, l := theBracket(), theLoad()
	for _, c := range []struct {
		what   string
		limits []api.Range
		factor api.Rat
	}{
		{"the second bar first", []api.Range{limit(r(-1, 1), r(0, 1)), limit(r(0, 1), r(1, 2))}, r(1, 6)},
		{"both at once", []api.Range{limit(r(-3, 1), r(0, 1)), limit(r(0, 1), r(3, 1))}, r(1, 1)},
		{"no compression", []api.Range{limit(r(0, 1), r(5, 1)), limit(r(-5, 1), r(5, 1))}, r(0, 1)},
		{"no tension", []api.Range{limit(r(-5, 1), r(5, 1)), limit(r(-5, 1), r(0, 1))}, r(0, 1)},
		{"nothing", []api.Range{limit(r(0, 1), r(0, 1)), limit(r(0, 1), r(0, 1))}, r(0, 1)},
	} {
		if got := wantCollapse(t, f, l, c.limits); !same(got.Factor, c.factor) {
			t.Errorf("%s: %v", c.what, got.Factor)
		}
	}
}

// someLimits are limits of so many bars.
func someLimits(d *rand.Rand, n int) []api.Range {
	out := []api.Range{}
	of := []int{1, 2, 4, 9}[d.Intn(4)]
	for range n {
		out = append(out, limit(odd(d, int64(-d.Intn(of)), int64(1+d.Intn(of))), odd(d, int64(d.Intn(of)), int64(1+d.Intn(of)))))
	}
	return out
}

// isTaken tells whether every component of the load vector other than 0 stands where a support is.
func isTaken(f api.Frame, l []api.Load) bool {
	p := vectorOf(f, l)
	for _, s := range f.Supports {
		p[3*s.Node+s.Axis] = new(big.Rat)
	}
	return areZero(p)
}

// P5.7: limit loads of any frames, against the definition. That it is met proves that the factor is the greatest.
func TestLimitLoad(t *testing.T) {
	d := dice()
	none, loose, zero, more := 0, 0, 0, 0
	for i := range 1500 {
		f := someFrame(d, 6)
		l := someLoads(d, f, 3)
		if i%3 > 0 {
			l = carriedLoads(d, f)
		}
		limits := someLimits(d, len(f.Bars))
		if isTaken(f, l) {
			c, e := statics.LimitLoad(f, l, limits)
			want(t, "LimitLoad", c, e, api.Collapse{}, api.ErrNone)
			none++
			continue
		}
		c := wantCollapse(t, f, l, limits)
		switch {
		case forcesOf(f, l) == nil:
			if !same(c.Factor, r(0, 1)) || !isFree(f, values(c.Motion)) {
				t.Errorf("LimitLoad of loads that are not carried: %v", c)
			}
			loose++
		case value(c.Factor).Sign() == 0:
			zero++
		default:
			more++
		}
	}
	if none < 50 || loose < 50 || zero < 50 || more < 50 {
		t.Errorf("none %d, loose %d, zero %d, more %d", none, loose, zero, more)
	}
}

// P5.7: CheckCollapse accepts any collapse, in any form, and nothing else.
func TestCheckCollapse(t *testing.T) {
	d := dice()
	accepted, refused := 0, 0
	for range 1500 {
		f := someFrame(d, 5)
		l := carriedLoads(d, f)
		limits := someLimits(d, len(f.Bars))
		c, e := statics.LimitLoad(f, l, limits)
		if e != api.OK {
			continue
		}
		c.Factor = oddly(d, []api.Rat{c.Factor})[0]
		c.Forces, c.Motion = oddly(d, c.Forces), oddly(d, c.Motion)
		wantError(t, "CheckCollapse", statics.CheckCollapse(f, l, limits, c), api.OK)
		switch d.Intn(8) {
		case 0:
			c.Factor = changed(d, []api.Rat{c.Factor})[0]
		case 1:
			c.Forces = changed(d, c.Forces)
		case 2:
			c.Motion = changed(d, c.Motion)
		case 3:
			c.Forces = c.Forces[1:]
		case 4:
			c.Motion = append(c.Motion, r(0, 1))
		case 5: // less than the greatest factor, with the forces that go with it
			half := big.NewRat(1, 2)
			c.Factor = ratOf(half.Mul(half, value(c.Factor)))
			c.Forces = ratsOf(scale(values(c.Forces), big.NewRat(1, 2)))
		case 6:
			if s := kernelOf(matrixOf(f), elements(f)); len(s) > 0 {
				c.Forces = ratsOf(plus(values(c.Forces), scale(s[0], big.NewRat(1, int64(1+d.Intn(99))))))
			}
		case 7:
			if s := kernelOf(turned(matrixOf(f), elements(f)), places(f)); len(s) > 0 {
				c.Motion = ratsOf(plus(values(c.Motion), s[0]))
			}
		}
		right := api.OK
		if !isCollapse(f, l, limits, c) {
			right = api.ErrProof
			refused++
		} else {
			accepted++
		}
		wantError(t, "CheckCollapse of another one", statics.CheckCollapse(f, l, limits, c), right)
	}
	if accepted < 50 || refused < 300 {
		t.Errorf("accepted %d, refused %d", accepted, refused)
	}
}

// P5.7: each part of a collapse is looked at.
func TestCheckCollapseOfBracket(t *testing.T) {
	f, l, limits := theBracket(), theLoad(), theLimits()
	for _, c := range []struct {
		what string
		do   func(c *api.Collapse)
		e    api.Errno
	}{
		{"nothing changed", func(c *api.Collapse) {}, api.OK},
		{"a greater factor", func(c *api.Collapse) { c.Factor, c.Forces = r(1, 1), list(-3, 3, 9, 0, 0, -9, 0, 12, 0) }, api.ErrProof},
		{"no forces", func(c *api.Collapse) { c.Forces = nil }, api.ErrProof},
		{"no motion", func(c *api.Collapse) { c.Motion = nil }, api.ErrProof},
		{"work on more", func(c *api.Collapse) { c.Motion[8] = r(-1, 6) }, api.ErrProof},
		{"a moved support", func(c *api.Collapse) { c.Motion[1] = r(1, 1) }, api.ErrProof},
		{"a moved support that counts for no bar", func(c *api.Collapse) { c.Motion[7] = r(1, 1) }, api.ErrProof},
		{"not in equilibrium", func(c *api.Collapse) { c.Forces[8] = r(1, 1) }, api.ErrProof},
		{"another motion with the work 1", func(c *api.Collapse) { c.Motion[6] = r(0, 1) }, api.ErrProof},
		{"another factor", func(c *api.Collapse) { c.Factor = r(1, 4) }, api.ErrProof},
		{"an empty one", func(c *api.Collapse) { *c = api.Collapse{} }, api.ErrProof},
	} {
		collapse, _ := statics.LimitLoad(f, l, limits)
		c.do(&collapse)
		wantError(t, c.what, statics.CheckCollapse(f, l, limits, collapse), c.e)
	}
	limits = []api.Range{limit(r(-3, 1), r(3, 1)), limit(r(-3, 1), r(3, 1))}
	whole := wantCollapse(t, f, l, limits)
	whole.Factor = api.Rat{Num: api.Int{Limbs: []uint32{1, 0}}}
	wantError(t, "the factor 1 without a denominator", statics.CheckCollapse(f, l, limits, whole), api.OK)
	wantError(t, "no collapse of no loads", statics.CheckCollapse(f, nil, limits, api.Collapse{Forces: make([]api.Rat, 9), Motion: make([]api.Rat, 9)}), api.ErrProof)
	c, e := statics.LimitLoad(api.Frame{}, nil, nil)
	want(t, "no nodes", c, e, api.Collapse{}, api.ErrNone)
}

// fan is a frame with so many bars from fixed nodes to the node 0.
func fan(bars int) api.Frame {
	f := api.Frame{Nodes: []api.Node{node(0, 0, 0)}}
	for i := range min(bars, 19) {
		f.Nodes = append(f.Nodes, node(i-9, 5, i*i))
		f.Bars = append(f.Bars, bar(0, i+1))
		f.Supports = append(f.Supports, rigid(i+1, 0), rigid(i+1, 1), rigid(i+1, 2))
	}
	for i := range max(0, bars-19) {
		f.Bars = append(f.Bars, bar(i+1, i+2))
	}
	return f
}

// P5.7: limit loads are looked for up to 20 bars; collapses are checked for any number.
func TestLimitLoadOfManyBars(t *testing.T) {
	d := dice()
	f, l := fan(20), loads(load(0, 3, -7, 5))
	for range 5 {
		wantCollapse(t, f, l, someLimits(d, 20))
	}
	wantCollapse(t, f, l, make([]api.Range, 20))
	_, e := statics.LimitLoad(f, nil, make([]api.Range, 20))
	wantError(t, "20 bars without loads", e, api.ErrNone)
	f = fan(21)
	limits := make([]api.Range, 21)
	c, e := statics.LimitLoad(f, nil, limits)
	want(t, "21 bars without loads", c, e, api.Collapse{}, api.ErrLarge)
	_, e = statics.LimitLoad(f, l, limits[1:])
	wantError(t, "21 bars, and 20 limits", e, api.ErrShape)
	c = api.Collapse{Forces: make([]api.Rat, elements(f)), Motion: make([]api.Rat, places(f))}
	c.Motion[0] = r(1, 3)
	wantError(t, "CheckCollapse", statics.CheckCollapse(f, l, limits, c), api.OK)
	c.Motion[0] = r(1, 2)
	wantError(t, "CheckCollapse of another one", statics.CheckCollapse(f, l, limits, c), api.ErrProof)
}
