package holding_test

import (
	"math"
	"testing"

	"putlog/api"
	"putlog/holding"
)

// board is a sole.
func board(length, width int) api.Sole { return api.Sole{Length: length, Width: width} }

// P6.7: pressures; the first one is the chapter's example.
func TestPressure(t *testing.T) {
	for _, x := range []struct {
		load  int
		s     api.Sole
		right api.Rat
	}{
		{9000, board(300, 300), r(1000, 1)},
		{9000, board(300, 301), r(300000, 301)},
		{1, board(300, 700), r(1, 21)},
		{0, board(300, 300), r(0, 1)},
		{1000000, board(1, 1), r(10000000000, 1)},
		{1, board(10000, 10000), r(1, 10000)},
	} {
		p, e := holding.Pressure(x.load, x.s)
		want(t, "Pressure", p, e, x.right, api.OK)
	}
}

// P6.7: a pressure may be as great as the bearing.
func TestCarries(t *testing.T) {
	for _, x := range []struct {
		load, bearing int
		s             api.Sole
		right         bool
	}{
		{9000, 1000, board(300, 300), true},
		{9001, 1000, board(300, 300), false},
		{9000, 999, board(300, 300), false},
		{9000, 1000, board(299, 300), false},
		{9000, 1000, board(300, 299), false},
		{0, 1, board(1, 1), true},
		{1, 10000, board(1, 1), true},
		{1, 9999, board(1, 1), false},
		{100, 1000000, board(1, 1), true},
		{101, 1000000, board(1, 1), false},
		{1000000, 1000000, board(10000, 10000), true},
		{1000000, 100, board(10000, 10000), true},
		{1000000, 99, board(10000, 10000), false},
	} {
		is, e := holding.Carries(x.load, x.bearing, x.s)
		want(t, "Carries", is, e, x.right, api.OK)
	}
}

// soleFault is the error of a sole.
func soleFault() []fault {
	return []fault{
		{api.ErrRange, func(x *input) { x.sole.Length = 0 }},
		{api.ErrRange, func(x *input) { x.sole.Length = 10001 }},
		{api.ErrRange, func(x *input) { x.sole.Width = 0 }},
		{api.ErrRange, func(x *input) { x.sole.Width = 10001 }},
		{api.ErrRange, func(x *input) { x.sole.Width = math.MinInt }},
	}
}

// P6.7: the errors of Pressure and Carries.
func TestPressureErrors(t *testing.T) {
	loads := []fault{
		{api.ErrRange, func(x *input) { x.load = -1 }},
		{api.ErrRange, func(x *input) { x.load = 1000001 }},
		{api.ErrRange, func(x *input) { x.load = math.MaxInt }},
	}
	bearings := []fault{
		{api.ErrRange, func(x *input) { x.bearing = 0 }},
		{api.ErrRange, func(x *input) { x.bearing = -1 }},
		{api.ErrRange, func(x *input) { x.bearing = 1000001 }},
	}
	inOrder(t, "Pressure", func(x input) api.Errno {
		p, e := holding.Pressure(x.load, x.sole)
		if e != api.OK {
			want(t, "Pressure", p, e, api.Rat{}, e)
		}
		return e
	}, loads, soleFault())
	inOrder(t, "Carries", func(x input) api.Errno {
		is, e := holding.Carries(x.load, x.bearing, x.sole)
		if e != api.OK {
			want(t, "Carries", is, e, false, e)
		}
		return e
	}, loads, bearings, soleFault())
}

// P6.7: the first board that is strong enough and lies on its step.
func TestSoles(t *testing.T) {
	g := api.Grid{Along: []int{-400, 0, 2900, 3000, 3100, 5900}, Levels: []int{2000}}
	l := theGround()
	l[1].Bearing = 500
	boards := []api.Sole{board(300, 300), board(200, 450), board(200, 900), board(600, 300)}
	same := func(load int) []int { return []int{load, load, load, load, load, load} }
	for _, x := range []struct {
		along, loads, right []int
		is                  api.Errno
	}{
		{[]int{-400, 0, 2900}, []int{9000, 9000, 9000}, []int{1, 0, 1}, api.OK},
		{[]int{0, 2700, 2851}, []int{18000, 18000, 9000}, []int{2, 2, 1}, api.OK},
		{[]int{0, 2700, 2701}, []int{18001, 0, 0}, nil, api.ErrGround},
		{[]int{3100, 3300, 5700}, []int{9000, 9000, 9000}, []int{2, 2, 2}, api.OK},
		{[]int{3100, 3300, 5700}, []int{4500, 4500, 4501}, []int{1, 0, 2}, api.OK},
		{[]int{3000, 3300, 5700}, []int{0, 0, 0}, nil, api.ErrGround},
		{[]int{3100, 5900, 5901}, []int{0, 0, 0}, nil, api.ErrGround},
		{[]int{-450, 5850, 5900}, []int{0, 0, 0}, nil, api.ErrGround},
		{[]int{-400, 5850, 5900}, []int{0, 0, 0}, []int{1, 0, 1}, api.OK},
		{[]int{-350, 2850, 3150}, []int{0, 0, 0}, []int{0, 0, 0}, api.OK},
		{[]int{-351, 2851, 3149}, []int{0, 0, 0}, []int{1, 1, 1}, api.OK},
	} {
		g.Along = x.along
		got, e := holding.Soles(g, l, x.loads, boards)
		want(t, "Soles", got, e, x.right, x.is)
	}
	g.Along = []int{-400, 0, 2900, 3100, 3300, 5900}
	got, e := holding.Soles(g, l, same(4500), boards)
	want(t, "Soles", got, e, []int{1, 0, 1, 1, 0, 1}, api.OK)
	got, e = holding.Soles(g, l, same(0), []api.Sole{board(1, 1), board(200, 450)})
	want(t, "Soles without loads", got, e, []int{0, 0, 0, 0, 0, 0}, api.OK)
}

// P6.7: half of an odd length is not rounded.
func TestSolesOfOddLength(t *testing.T) {
	g := api.Grid{Along: []int{50}, Levels: []int{2000}}
	for _, x := range []struct {
		from, to, length int
		is               api.Errno
	}{
		{0, 100, 100, api.OK}, {0, 100, 101, api.ErrGround}, {0, 101, 101, api.ErrGround}, {-1, 100, 101, api.ErrGround},
		{-1, 101, 101, api.OK}, {-1, 101, 102, api.OK}, {-1, 101, 103, api.ErrGround},
	} {
		_, e := holding.Soles(g, []api.Ground{{From: x.from, To: x.to, Bearing: 1}}, []int{0}, []api.Sole{board(x.length, 1)})
		wantError(t, "Soles", e, x.is)
	}
}

// P6.7: soles of some grids by the chapter's definition.
func TestSolesByDefinition(t *testing.T) {
	d := dice()
	found := 0
	for range 3000 {
		g, l := someGrid(d, 3, 3), someGround(d)
		boards, loads := []api.Sole{}, []int{}
		for range 1 + d.Intn(6) {
			boards = append(boards, board(1+d.Intn(9), 1+d.Intn(9)))
		}
		right, f := []int{}, api.OK
		for _, x := range g.Along {
			load := d.Intn(3) * d.Intn(4) / 2
			loads = append(loads, load)
			first := -1
			for i := len(boards) - 1; i >= 0; i-- {
				for k, s := range l {
					belongs := s.From <= x && x < s.To || k == len(l)-1 && x == s.To
					p, _ := holding.Pressure(load, boards[i])
					half := float64(boards[i].Length) / 2
					lies := float64(x)-half >= float64(s.From) && float64(x)+half <= float64(s.To)
					if belongs && lies && value(p).Cmp(value(r(int64(s.Bearing), 1))) <= 0 {
						first = i
					}
				}
			}
			right = append(right, first)
			if first < 0 {
				f = api.ErrGround
			}
		}
		if f != api.OK {
			right = nil
		} else {
			found++
		}
		got, e := holding.Soles(g, l, loads, boards)
		want(t, "Soles", got, e, right, f)
	}
	if found < 300 || found > 2700 {
		t.Errorf("%d of 3000 grids have soles", found)
	}
}

// P6.7: the errors of Soles.
func TestSolesErrors(t *testing.T) {
	inOrder(t, "Soles", func(x input) api.Errno {
		_, e := holding.Soles(x.grid, x.ground, x.loads, x.boards)
		return e
	}, gridFault(), groundFault(), []fault{
		{api.ErrShape, func(x *input) { x.loads = x.loads[1:] }},
		{api.ErrShape, func(x *input) { x.loads = append(x.loads, 0) }},
	}, []fault{
		{api.ErrRange, func(x *input) { x.loads[1] = -1 }},
		{api.ErrRange, func(x *input) { x.loads[1] = 1000001 }},
	}, []fault{
		{api.ErrShape, func(x *input) { x.boards = nil }},
		{api.ErrShape, func(x *input) { x.boards = append(x.boards, make([]api.Sole, 20)...) }},
	}, []fault{
		{api.ErrRange, func(x *input) { x.boards = append(x.boards, board(0, 1)) }},
		{api.ErrRange, func(x *input) { x.boards = append(x.boards, board(1, 0)) }},
		{api.ErrRange, func(x *input) { x.boards = append(x.boards, board(10001, 1)) }},
		{api.ErrRange, func(x *input) { x.boards = append(x.boards, board(1, 10001)) }},
	}, besideFault(), []fault{
		{api.ErrGround, func(x *input) { x.loads[0] = 9001 }},
		{api.ErrGround, func(x *input) { x.loads[2] = 9001 }},
	})
	g := api.Grid{Along: []int{0}, Levels: []int{1}}
	l, e := holding.Soles(g, []api.Ground{{From: -5000, To: 5000, Bearing: 100}}, []int{1000000}, []api.Sole{board(9999, 10000), board(10000, 10000)})
	want(t, "Soles of the greatest load", l, e, []int{1}, api.OK)
	boards := make([]api.Sole, 20)
	for i := range boards {
		boards[i] = board(300, 281+i)
	}
	x := fine()
	l, e = holding.Soles(x.grid, x.ground, x.loads, boards)
	want(t, "Soles of 20 boards", l, e, []int{19, 19, 19}, api.OK)
}
