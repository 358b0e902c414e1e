package statics_test

import (
	"math"
	"math/big"
	"math/rand"
	"testing"

	"putlog/api"
	"putlog/statics"
)

func step(at, value api.Rat) api.Step { return api.Step{At: at, Value: value} }

// theTable is the table of the chapter's examples.
func theTable() []api.Step { return []api.Step{step(r(0, 1), r(1, 1)), step(r(100, 1), r(1, 2))} }

// P5.5: values of tables.
func TestInterpolate(t *testing.T) {
	three := []api.Step{step(r(-1, 2), r(3, 1)), step(r(1, 2), r(-1, 1)), step(r(2, 1), r(0, 1))}
	for _, c := range []struct {
		what     string
		t        []api.Step
		x, value api.Rat
	}{
		{"between", theTable(), r(50, 1), r(3, 4)},
		{"after the last", theTable(), r(200, 1), r(1, 2)},
		{"before the first", theTable(), r(-1, 7), r(1, 1)},
		{"at the first", theTable(), r(0, 1), r(1, 1)},
		{"at the last", theTable(), r(100, 1), r(1, 2)},
		{"nearly at the last", theTable(), r(99, 1), r(101, 200)},
		{"one step", theTable()[1:], r(0, 1), r(1, 2)},
		{"one step, far away", theTable()[1:], r(1000, 1), r(1, 2)},
		{"three, in the first part", three, r(0, 1), r(1, 1)},
		{"three, at the second", three, r(1, 2), r(-1, 1)},
		{"three, in the second part", three, r(1, 1), r(-2, 3)},
		{"three, beyond", three, r(5, 2), r(0, 1)},
	} {
		x, e := statics.Interpolate(c.t, c.x)
		want(t, c.what, x, e, c.value, api.OK)
	}
}

// someTable is a table with ascending At.
func someTable(d *rand.Rand, steps int) []api.Step {
	out := []api.Step{}
	at := big.NewRat(int64(d.Intn(9)-20), 3)
	for range steps {
		at.Add(at, big.NewRat(int64(1+d.Intn(6)), int64(1+d.Intn(3))))
		out = append(out, step(ratOf(at), r(int64(d.Intn(11)), 10)))
	}
	return out
}

// valueAt is the value of a table, by the equation of the straight line through two points.
func valueAt(table []api.Step, x *big.Rat) *big.Rat {
	last := len(table) - 1
	if x.Cmp(value(table[0].At)) <= 0 {
		return value(table[0].Value)
	}
	if x.Cmp(value(table[last].At)) >= 0 {
		return value(table[last].Value)
	}
	for i := range last {
		a, b := value(table[i].At), value(table[i+1].At)
		if x.Cmp(a) < 0 || x.Cmp(b) > 0 {
			continue
		}
		v, w := value(table[i].Value), value(table[i+1].Value)
		// (v (b - x) + w (x - a)) / (b - a)
		sum := new(big.Rat).Mul(v, new(big.Rat).Sub(b, x))
		sum.Add(sum, new(big.Rat).Mul(w, new(big.Rat).Sub(x, a)))
		return sum.Quo(sum, new(big.Rat).Sub(b, a))
	}
	return nil
}

// P5.5: values of any tables, in any form.
func TestInterpolateOfAny(t *testing.T) {
	d := dice()
	for i := range 1000 {
		table := someTable(d, 1+d.Intn(7))
		if i == 0 {
			table = someTable(d, 100)
		}
		x := big.NewRat(int64(d.Intn(100)-40), int64(1+d.Intn(4)))
		if d.Intn(3) == 0 {
			x = value(table[d.Intn(len(table))].At)
		}
		for k, s := range table {
			l := oddly(d, []api.Rat{s.At, s.Value})
			table[k] = step(l[0], l[1])
		}
		y, e := statics.Interpolate(table, oddly(d, []api.Rat{ratOf(x)})[0])
		want(t, "Interpolate", y, e, ratOf(valueAt(table, x)), api.OK)
	}
}

// P5.5: tables that are refused.
func TestInterpolateErrors(t *testing.T) {
	d := dice()
	long := someTable(d, 101)
	twice := append(theTable(), step(odd(d, 100, 1), r(1, 1)))
	back := append(theTable(), step(r(199, 2), r(1, 1)))
	for _, c := range []struct {
		what string
		t    []api.Step
		e    api.Errno
	}{
		{"no steps", nil, api.ErrNone},
		{"101 steps", long, api.ErrLarge},
		{"101 steps out of order", append(long[:100:100], long[0]), api.ErrLarge},
		{"one At twice", twice, api.ErrOrder},
		{"descending", back, api.ErrOrder},
		{"wrong at the beginning", []api.Step{step(r(1, 1), r(1, 1)), step(r(0, 1), r(1, 1)), step(r(5, 1), r(1, 1))}, api.ErrOrder},
	} {
		x, e := statics.Interpolate(c.t, r(0, 1))
		want(t, c.what, x, e, api.Rat{}, c.e)
		limits, e := statics.Limits(api.Frame{}, nil, c.t)
		want(t, c.what+", for limits", limits, e, nil2(), c.e)
	}
}

// isLimit tells whether k thousandths are the greatest whose square, times square, is at most the square of strength.
func isLimit(k *big.Int, square, strength int) bool {
	most := new(big.Int).Mul(big.NewInt(int64(strength)*1000), big.NewInt(int64(strength)*1000))
	fits := func(k *big.Int) bool {
		x := new(big.Int).Mul(k, k)
		return x.Mul(x, big.NewInt(int64(square))).Cmp(most) <= 0
	}
	return k.Sign() >= 0 && fits(k) && !fits(new(big.Int).Add(k, big.NewInt(1)))
}

// P5.5: limits of force densities.
func TestLimit(t *testing.T) {
	for _, c := range []struct {
		square, strength int
		right            api.Rat
	}{
		{25, 10, r(2, 1)}, {2, 10, r(7071, 1000)}, {1, 0, r(0, 1)}, {1, 1000000, r(1000000, 1)}, {1, 1, r(1, 1)}, {3, 1, r(577, 1000)},
		{api.MaxSquare, 0, r(0, 1)}, {api.MaxSquare, 1000000, r(223, 1000)}, {api.MaxSquare, 1, r(0, 1)}, {1000000, 1, r(1, 1000)}, {1000001, 1, r(0, 1)},
	} {
		x, e := statics.Limit(c.square, c.strength)
		want(t, "Limit", x, e, c.right, api.OK)
	}
	d := dice()
	for range 3000 {
		square, strength := 1+d.Intn(1+d.Intn(1000)), d.Intn(1+d.Intn(1000001))
		switch d.Intn(3) {
		case 0:
			square = 1 + d.Intn(api.MaxSquare)
		case 1: // where the root is a whole number of thousandths
			k := 1 + d.Intn(1000)
			square, strength = k*k, k*d.Intn(1000)
		}
		x, e := statics.Limit(square, strength)
		k := value(x)
		k.Mul(k, big.NewRat(1000, 1))
		if !k.IsInt() || !isLimit(k.Num(), square, strength) || !same(x, ratOf(value(x))) || e != api.OK {
			t.Errorf("Limit(%d, %d): %v, error %d", square, strength, x, e)
		}
	}
	for _, l := range [][2]int{{0, 0}, {-1, 5}, {api.MaxSquare + 1, 5}, {math.MinInt, 5}, {math.MaxInt, 5}, {5, -1}, {5, 1000001}, {5, math.MinInt}, {5, math.MaxInt}} {
		x, e := statics.Limit(l[0], l[1])
		want(t, "Limit", x, e, api.Rat{}, api.ErrRange)
	}
}

// P5.5: the limits of the bracket's bars, whose squared lengths are 9 and 25.
func TestLimits(t *testing.T) {
	limits, e := statics.Limits(theBracket(), []int{12, 10}, theTable())
	want(t, "Limits", limits, e, []api.Range{limit(r(-191, 50), r(4, 1)), limit(r(-7, 4), r(2, 1))}, api.OK)
	limits, e = statics.Limits(theBracket(), []int{0, 1000000}, []api.Step{step(r(10, 1), r(0, 1)), step(r(20, 1), r(1, 1))})
	want(t, "Limits of ends", limits, e, []api.Range{limit(r(0, 1), r(0, 1)), limit(r(-200000, 1), r(200000, 1))}, api.OK)
	limits, e = statics.Limits(api.Frame{}, nil, theTable())
	want(t, "Limits of no bars", limits, e, nil2(), api.OK)
	d := dice()
	for range 200 {
		f := someFrame(d, 5)
		strengths, right := []int{}, []api.Range{}
		table := someTable(d, 1+d.Intn(5))
		for _, b := range f.Bars {
			square := 0
			for k := range 3 {
				by := coordinates(f.Nodes[b.B])[k] - coordinates(f.Nodes[b.A])[k]
				square += by * by
			}
			strengths = append(strengths, d.Intn(100))
			high, _ := statics.Limit(square, strengths[len(strengths)-1])
			low := valueAt(table, big.NewRat(int64(square), 1))
			low.Mul(low, value(high)).Neg(low)
			right = append(right, limit(ratOf(low), high))
		}
		limits, e := statics.Limits(f, strengths, table)
		want(t, "Limits", limits, e, right, api.OK)
	}
	far := api.Frame{Nodes: []api.Node{node(-1000000, -1000000, -1000000), node(1000000, 1000000, 1000000)}, Bars: []api.Bar{bar(0, 1)}}
	limits, e = statics.Limits(far, []int{1000000}, []api.Step{step(r(12000000000000, 1), r(1, 1)), step(r(12000000000001, 1), r(0, 1))})
	want(t, "Limits of the longest bar", limits, e, []api.Range{limit(r(-288, 1000), r(288, 1000))}, api.OK)
}

// P5.5: what Limits refuses, in this order.
func TestLimitsErrors(t *testing.T) {
	d := dice()
	beyond := func(v api.Rat) []api.Step { return append(theTable(), step(r(1000, 1), v)) }
	for _, c := range []struct {
		what      string
		strengths []int
		t         []api.Step
		e         api.Errno
	}{
		{"too few strengths", []int{-1}, nil, api.ErrShape},
		{"too many strengths", []int{1, 2, 3}, nil, api.ErrShape},
		{"a negative strength", []int{0, -1}, nil, api.ErrRange},
		{"a large strength", []int{1000001, 0}, nil, api.ErrRange},
		{"no table", []int{0, 0}, nil, api.ErrNone},
		{"a table out of order", []int{0, 0}, append(beyond(r(-1, 1)), step(r(0, 1), r(0, 1))), api.ErrOrder},
		{"a negative value", []int{0, 0}, beyond(odd(d, -1, 9)), api.ErrRange},
		{"a value above 1", []int{0, 0}, beyond(odd(d, 10, 9)), api.ErrRange},
		{"the value 1", []int{0, 0}, beyond(odd(d, 1, 1)), api.OK},
		{"the value 0", []int{0, 0}, beyond(odd(d, 0, 1)), api.OK},
	} {
		limits, e := statics.Limits(theBracket(), c.strengths, c.t)
		wantError(t, c.what, e, c.e)
		if (e != api.OK) != (len(limits) == 0) {
			t.Errorf("%s: %v", c.what, limits)
		}
	}
}

// P5.5: the first bar beyond its limits.
func TestStrong(t *testing.T) {
	d := dice()
	f := theBracket()
	for _, c := range []struct {
		what string
		x    []api.Rat
		n    int
	}{
		{"the forces under the load", list(-3, 3, 9, 0, 0, -9, 0, 12, 0), 0},
		{"at the limits", list(-1, 2, 9, 0, 0, -9, 0, 12, 0), -1},
		{"at the other limits", list(2, -2, 9, 0, 0, -9, 0, 12, 0), -1},
		{"the second too large", append([]api.Rat{odd(d, 2, 1), odd(d, 5, 2)}, list(0, 0, 0, 0, 0, 0, 0)...), 1},
		{"the second too small", append([]api.Rat{odd(d, -1, 1), odd(d, -7, 3)}, list(0, 0, 0, 0, 0, 0, 0)...), 1},
		{"the first slightly too large", append([]api.Rat{odd(d, 2001, 1000), odd(d, 9, 1)}, list(0, 0, 0, 0, 0, 0, 0)...), 0},
		{"0", list(0, 0, 0, 0, 0, 0, 0, 0, 0), -1},
	} {
		n, e := statics.Strong(f, c.x, theLimits())
		want(t, c.what, n, e, c.n, api.OK)
	}
	n, e := statics.Strong(api.Frame{}, nil, nil)
	want(t, "no bars", n, e, -1, api.OK)
}

// P5.5 and P5.7: the errors of forces and of limits.
func TestStrongErrors(t *testing.T) {
	f, x := theBracket(), list(-3, 3, 9, 0, 0, -9, 0, 12, 0)
	d := dice()
	for _, c := range []struct {
		what   string
		limits []api.Range
		e      api.Errno
	}{
		{"too few", theLimits()[:1], api.ErrShape},
		{"too many", append(theLimits(), theLimits()...), api.ErrShape},
		{"low above high", []api.Range{theLimits()[0], limit(odd(d, 2, 1), odd(d, 1, 1))}, api.ErrOrder},
		{"low above 0", []api.Range{theLimits()[0], limit(odd(d, 1, 2), odd(d, 1, 1))}, api.ErrRange},
		{"high below 0", []api.Range{limit(odd(d, -1, 1), odd(d, -1, 2)), theLimits()[0]}, api.ErrRange},
		{"the first one", []api.Range{limit(odd(d, -1, 1), odd(d, -1, 2)), limit(r(2, 1), r(1, 1))}, api.ErrRange},
		{"both 0", []api.Range{theLimits()[0], limit(odd(d, 0, 2), odd(d, 0, 1))}, api.OK},
	} {
		n, e := statics.Strong(f, x, c.limits)
		want(t, c.what, n, e, 0, c.e)
		collapse, e := statics.LimitLoad(f, theLoad(), c.limits)
		wantError(t, c.what+", LimitLoad", e, c.e)
		if e != api.OK {
			want(t, c.what+", LimitLoad", collapse, e, api.Collapse{}, c.e)
			wantError(t, c.what+", CheckCollapse", statics.CheckCollapse(f, theLoad(), c.limits, api.Collapse{}), c.e)
		}
	}
	for _, x := range [][]api.Rat{nil, x[1:], append(x, r(0, 1))} {
		n, e := statics.Strong(f, x, nil)
		want(t, "Strong of other forces", n, e, 0, api.ErrShape)
	}
	n, e := statics.Strong(f, x[:2], []api.Range{limit(r(2, 1), r(1, 1)), theLimits()[0]})
	want(t, "forces before limits", n, e, 0, api.ErrShape)
}
