package statics_test

import (
	"math"
	"math/big"
	"math/rand"
	"testing"

	"putlog/api"
	"putlog/statics"
)

func deck(area int, nodes ...int) api.Deck {
	return api.Deck{Nodes: [4]int(nodes), Area: area}
}

func face(area, height, axis, sign int, nodes ...int) api.Face {
	return api.Face{Nodes: [4]int(nodes), Area: area, Height: height, Axis: axis, Sign: sign}
}

// quarterOf is the load on each of four nodes: what the pressure puts on the area, rounded up, and a quarter of it, rounded up.
func quarterOf(area, pascals int) int {
	up := func(x *big.Rat) *big.Rat {
		n := new(big.Int).Neg(x.Num())
		n.Div(n, x.Denom())
		return new(big.Rat).SetInt(n.Neg(n))
	}
	x := big.NewRat(int64(area), 1000000)
	x = up(x.Mul(x, big.NewRat(int64(pascals), 1)))
	return int(up(x.Mul(x, big.NewRat(1, 4))).Num().Int64())
}

// P5.9: the examples, and others that are rounded.
func TestDeckLoads(t *testing.T) {
	f := bigFrame(dice(), 100)
	for _, c := range []struct{ area, pascals, k int }{
		{2000000, 1500, 750}, {1, 1, 1}, {0, 1500, 0}, {2000000, 0, 0}, {4000000, 1, 1}, {4000001, 1, 2}, {5000000, 1, 2},
		{8000000, 1, 2}, {8000000, 1500, 3000}, {400000000, 10000, 1000000}, {999999, 4, 1}, {1000001, 4, 2}, {40000000, 100000, 1000000},
	} {
		l, e := statics.DeckLoads(f, []api.Deck{deck(c.area, 7, 3, 0, 19)}, c.pascals)
		k := -c.k
		want(t, "DeckLoads", l, e, loads(load(7, 0, 0, k), load(3, 0, 0, k), load(0, 0, 0, k), load(19, 0, 0, k)), api.OK)
	}
	d := dice()
	for range 300 {
		decks, right := []api.Deck{}, []api.Load{}
		pascals := d.Intn(1 + d.Intn(1001))
		for range d.Intn(5) {
			n := deck(d.Intn(1+d.Intn(40000000)), d.Intn(20), d.Intn(20), d.Intn(20), d.Intn(20))
			decks = append(decks, n)
			for _, at := range n.Nodes {
				right = append(right, load(at, 0, 0, -quarterOf(n.Area, pascals)))
			}
		}
		l, e := statics.DeckLoads(f, decks, pascals)
		want(t, "DeckLoads", l, e, right, api.OK)
	}
}

// P5.9: decks that are refused, in this order.
func TestDeckLoadsErrors(t *testing.T) {
	f := bigFrame(dice(), 100)
	missing := deck(-1, 0, 1, 2, 20)
	for _, c := range []struct {
		what    string
		decks   []api.Deck
		pascals int
		e       api.Errno
	}{
		{"pressure below 0", make([]api.Deck, 51), -1, api.ErrRange},
		{"pressure too large", []api.Deck{missing}, 100001, api.ErrRange},
		{"the greatest pressure", nil, 100000, api.OK},
		{"51 decks", append(make([]api.Deck, 50), missing), 1, api.ErrLarge},
		{"50 decks", make([]api.Deck, 50), 1, api.OK},
		{"no node", []api.Deck{missing}, 1, api.ErrMissing},
		{"a node before the first", []api.Deck{deck(1, -1, 1, 2, 3)}, 1, api.ErrMissing},
		{"no second node", []api.Deck{deck(1, 0, 99, 2, 3)}, 1, api.ErrMissing},
		{"no third node", []api.Deck{deck(1, 0, 1, math.MinInt, 3)}, 1, api.ErrMissing},
		{"area below 0", []api.Deck{deck(-1, 0, 1, 2, 3), missing}, 1, api.ErrRange},
		{"area too large", []api.Deck{deck(1000000001, 0, 1, 2, 3)}, 100000, api.ErrRange},
		{"the greatest area", []api.Deck{deck(1000000000, 0, 1, 2, 3)}, 4000, api.OK},
		{"a load too large", []api.Deck{deck(1000000000, 0, 1, 2, 3), missing}, 4001, api.ErrLarge},
		{"a load slightly too large", []api.Deck{deck(1, 0, 1, 2, 3), deck(40000001, 0, 1, 2, 3)}, 100000, api.ErrLarge},
		{"the same node four times", []api.Deck{deck(1, 5, 5, 5, 5)}, 1, api.OK},
	} {
		l, e := statics.DeckLoads(f, c.decks, c.pascals)
		wantError(t, c.what, e, c.e)
		if e != api.OK && l != nil || e == api.OK && len(l) != 4*len(c.decks) {
			t.Errorf("%s: %v", c.what, l)
		}
	}
}

// theWinds are pressures that grow with the height.
func theWinds() []api.Wind {
	return []api.Wind{{Height: -5, Pascals: 100}, {Height: 4000, Pascals: 500}, {Height: 10000, Pascals: 800}}
}

// P5.9: loads of wind in each direction and at each height.
func TestWindLoads(t *testing.T) {
	f := bigFrame(dice(), 100)
	for _, c := range []struct {
		face api.Face
		x, y int
	}{
		{face(8000000, 4000, 0, 1, 7, 3, 0, 19), 1000, 0},
		{face(8000000, 3999, 0, -1, 7, 3, 0, 19), -200, 0},
		{face(8000000, 9999, 1, 1, 7, 3, 0, 19), 0, 1000},
		{face(8000000, 10000, 1, -1, 7, 3, 0, 19), 0, -1600},
		{face(8000000, math.MaxInt, 1, -1, 7, 3, 0, 19), 0, -1600},
		{face(8000000, -5, 1, 1, 7, 3, 0, 19), 0, 200},
		{face(8000000, -6, 1, 1, 7, 3, 0, 19), 0, 0},
		{face(8000000, math.MinInt, 0, -1, 7, 3, 0, 19), 0, 0},
		{face(1, 0, 0, -1, 7, 3, 0, 19), -1, 0},
		{face(0, 0, 0, -1, 7, 3, 0, 19), 0, 0},
		{face(1000000000, 0, 0, -1, 7, 3, 0, 19), -25000, 0},
	} {
		l, e := statics.WindLoads(f, []api.Face{c.face}, theWinds())
		want(t, "WindLoads", l, e, loads(load(7, c.x, c.y, 0), load(3, c.x, c.y, 0), load(0, c.x, c.y, 0), load(19, c.x, c.y, 0)), api.OK)
	}
	l, e := statics.WindLoads(f, []api.Face{face(1000000000, 5, 0, 1, 7, 3, 0, 19)}, nil)
	want(t, "WindLoads without wind", l, e, loads(load(7, 0, 0, 0), load(3, 0, 0, 0), load(0, 0, 0, 0), load(19, 0, 0, 0)), api.OK)
	two := []api.Face{face(4000001, 0, 0, 1, 0, 1, 2, 3), face(1000000, 5000, 1, -1, 3, 3, 4, 0)}
	l, e = statics.WindLoads(f, two, theWinds())
	right := loads(load(0, 101, 0, 0), load(1, 101, 0, 0), load(2, 101, 0, 0), load(3, 101, 0, 0))
	right = append(right, load(3, 0, -125, 0), load(3, 0, -125, 0), load(4, 0, -125, 0), load(0, 0, -125, 0))
	want(t, "WindLoads on two faces", l, e, right, api.OK)
}

// P5.9: winds and faces that are refused, in this order.
func TestWindLoadsErrors(t *testing.T) {
	f := bigFrame(dice(), 100)
	winds := func(n int) []api.Wind {
		out := []api.Wind{}
		for i := range n {
			out = append(out, api.Wind{Height: i, Pascals: 100000 - i})
		}
		return out
	}
	with := func(w ...api.Wind) []api.Wind { return append(theWinds(), w...) }
	missing := face(-1, 0, 2, 0, 0, 1, 2, 20)
	for _, c := range []struct {
		what  string
		faces []api.Face
		table []api.Wind
		e     api.Errno
	}{
		{"101 winds", []api.Face{missing}, append(winds(100), api.Wind{Pascals: -1}), api.ErrLarge},
		{"100 winds", nil, winds(100), api.OK},
		{"a height twice", []api.Face{missing}, with(api.Wind{Height: 10000, Pascals: -1}), api.ErrOrder},
		{"descending", nil, with(api.Wind{Height: 9999}), api.ErrOrder},
		{"the first height twice", nil, []api.Wind{{Height: 5}, {Height: 5}}, api.ErrOrder},
		{"a pressure below 0", []api.Face{missing}, with(api.Wind{Height: 10001, Pascals: -1}, api.Wind{}), api.ErrRange},
		{"a first pressure below 0", nil, []api.Wind{{Height: 5, Pascals: -1}, {}}, api.ErrRange},
		{"a pressure too large", nil, with(api.Wind{Height: 10001, Pascals: 100001}), api.ErrRange},
		{"the least height", nil, []api.Wind{{Height: math.MinInt}, {Height: math.MaxInt}}, api.OK},
		{"51 faces", append(make([]api.Face, 50), missing), theWinds(), api.ErrLarge},
		{"no node", []api.Face{missing}, theWinds(), api.ErrMissing},
		{"a node before the first", []api.Face{face(0, 0, 0, 1, 0, 1, -1, 3)}, theWinds(), api.ErrMissing},
		{"area below 0", []api.Face{face(-1, 0, 0, 1, 0, 1, 2, 3), missing}, theWinds(), api.ErrRange},
		{"area too large", []api.Face{face(1000000001, 0, 0, 1, 0, 1, 2, 3)}, winds(1), api.ErrRange},
		{"axis 2", []api.Face{face(0, 0, 2, 1, 0, 1, 2, 3)}, theWinds(), api.ErrRange},
		{"axis -1", []api.Face{face(0, 0, -1, 1, 0, 1, 2, 3)}, theWinds(), api.ErrRange},
		{"sign 0", []api.Face{face(0, 0, 1, 0, 0, 1, 2, 3)}, theWinds(), api.ErrRange},
		{"sign 2", []api.Face{face(0, 0, 1, 2, 0, 1, 2, 3)}, theWinds(), api.ErrRange},
		{"sign -2", []api.Face{face(0, 0, 1, -2, 0, 1, 2, 3)}, theWinds(), api.ErrRange},
		{"no sign, and a load too large", []api.Face{face(1000000000, 0, 1, 3, 0, 1, 2, 3)}, winds(1), api.ErrRange},
		{"a load too large", []api.Face{face(40000001, 0, 1, -1, 0, 1, 2, 3), missing}, winds(1), api.ErrLarge},
		{"the greatest load", []api.Face{face(40000000, 0, 1, -1, 0, 1, 2, 3)}, winds(1), api.OK},
		{"a large area without wind", []api.Face{face(1000000000, -1, 1, -1, 0, 1, 2, 3)}, winds(1), api.OK},
	} {
		l, e := statics.WindLoads(f, c.faces, c.table)
		wantError(t, c.what, e, c.e)
		if e != api.OK && l != nil || e == api.OK && len(l) != 4*len(c.faces) {
			t.Errorf("%s: %v", c.what, l)
		}
	}
	fifty := make([]api.Face, 50)
	for i := range fifty {
		fifty[i].Sign = 1
	}
	l, e := statics.WindLoads(f, fifty, nil)
	want(t, "50 faces", len(l), e, 200, api.OK)
}

// P5.9: sums of cases.
func TestGather(t *testing.T) {
	l, e := statics.Gather([][]api.Load{theLoad(), loads(load(2, 1, 0, 4), load(0, 0, 3, 0), load(2, 0, 0, 1)), nil}, []int{2, -3, 100})
	want(t, "Gather", l, e, loads(load(0, 0, -9, 0), load(2, -3, 0, -39)), api.OK)
	l, e = statics.Gather([][]api.Load{theLoad(), theLoad(), loads(load(19, 0, 1, 0))}, []int{5, -5, 1})
	want(t, "Gather of what cancels out", l, e, loads(load(19, 0, 1, 0)), api.OK)
	l, e = statics.Gather([][]api.Load{theLoad()}, []int{0})
	want(t, "Gather times 0", l, e, nil2(), api.OK)
	l, e = statics.Gather(nil, nil)
	want(t, "Gather of nothing", l, e, nil2(), api.OK)
	d := dice()
	for range 500 {
		cases, factors, sums := [][]api.Load{}, []int{}, [20]api.Load{}
		for range d.Intn(5) {
			l, by := someGathered(d), d.Intn(201)-100
			cases, factors = append(cases, l), append(factors, by)
			for _, n := range l {
				sums[n.Node].X += by * n.X
				sums[n.Node].Y += by * n.Y
				sums[n.Node].Z += by * n.Z
			}
		}
		right, f := []api.Load{}, api.OK
		for n, sum := range sums {
			sum.Node = n
			if sum != load(n, 0, 0, 0) {
				right = append(right, sum)
			}
			for _, x := range []int{sum.X, sum.Y, sum.Z} {
				if x < -1000000 || x > 1000000 {
					f = api.ErrLarge
				}
			}
		}
		if f != api.OK {
			right = nil
		}
		l, e := statics.Gather(cases, factors)
		want(t, "Gather", l, e, right, f)
	}
}

// someGathered are loads, few of them large, without a frame.
func someGathered(d *rand.Rand) []api.Load {
	out := []api.Load{}
	for range d.Intn(6) {
		size := []int{1, 1, 100, 100, 30000}[d.Intn(5)]
		out = append(out, load(d.Intn(20), d.Intn(2*size+1)-size, d.Intn(2*size+1)-size, d.Intn(2*size+1)-size))
	}
	return out
}

// P5.9: what Gather refuses, in this order.
func TestGatherErrors(t *testing.T) {
	beyond, missing := loads(load(0, 0, 0, 1000001)), loads(load(20, 0, 0, 1000001))
	for _, c := range []struct {
		what    string
		cases   [][]api.Load
		factors []int
		e       api.Errno
	}{
		{"17 cases", make([][]api.Load, 17), nil, api.ErrLarge},
		{"16 cases", make([][]api.Load, 16), make([]int, 16), api.OK},
		{"too few factors", [][]api.Load{missing, nil}, []int{101}, api.ErrShape},
		{"too many factors", nil, []int{101}, api.ErrShape},
		{"a factor above 100", [][]api.Load{missing, nil}, []int{1, 101}, api.ErrRange},
		{"a factor below -100", [][]api.Load{missing}, []int{-101}, api.ErrRange},
		{"the least factor of all", [][]api.Load{missing}, []int{math.MinInt}, api.ErrRange},
		{"the ends of factors", [][]api.Load{theLoad(), theLoad()}, []int{-100, 100}, api.OK},
		{"201 loads", [][]api.Load{append(make([]api.Load, 200), missing...)}, []int{0}, api.ErrLarge},
		{"200 loads", [][]api.Load{make([]api.Load, 200)}, []int{0}, api.OK},
		{"the first case", [][]api.Load{beyond, make([]api.Load, 201)}, []int{0, 0}, api.ErrRange},
		{"no node", [][]api.Load{missing}, []int{0}, api.ErrMissing},
		{"a node before the first", [][]api.Load{loads(load(-1, 0, 0, 0))}, []int{0}, api.ErrMissing},
		{"X beyond", [][]api.Load{loads(load(0, -1000001, 0, 0))}, []int{0}, api.ErrRange},
		{"Y beyond", [][]api.Load{loads(load(0, 0, math.MaxInt, 0))}, []int{0}, api.ErrRange},
		{"Z beyond", [][]api.Load{beyond}, []int{0}, api.ErrRange},
		{"X too large in sum", [][]api.Load{loads(load(0, 500000, 0, 0)), loads(load(0, 1, 0, 0))}, []int{2, 1}, api.ErrLarge},
		{"Y too small in sum", [][]api.Load{loads(load(19, 0, 500000, 0)), loads(load(19, 0, 1, 0))}, []int{-2, -1}, api.ErrLarge},
		{"Z too large in sum", [][]api.Load{loads(load(19, 0, 0, 10001))}, []int{100}, api.ErrLarge},
		{"the greatest sum", [][]api.Load{loads(load(0, 500000, 0, -10000)), loads(load(1, 0, 1, 0))}, []int{2, 1}, api.OK},
		{"the greatest sums of all", [][]api.Load{loads(load(0, 1000000, 0, 0), load(0, 1000000, 0, 0)), loads(load(0, 1000000, 0, 0))}, []int{100, 1}, api.ErrLarge},
	} {
		l, e := statics.Gather(c.cases, c.factors)
		wantError(t, c.what, e, c.e)
		if e != api.OK && l != nil {
			t.Errorf("%s: %v", c.what, l)
		}
	}
}
