package holding_test

import (
	"math"
	"math/rand"
	"testing"

	"putlog/api"
	"putlog/holding"
)

// stairs is so many steps, each one a millimetre long.
func stairs(n int) []api.Ground {
	out := []api.Ground{}
	for i := range n {
		out = append(out, api.Ground{From: i, To: i + 1, Height: 10 * i, Bearing: 1})
	}
	return out
}

// P6.6: grounds.
func TestCheckGround(t *testing.T) {
	wide := []api.Ground{{From: -1000000, To: -999999, Height: -1000000, Bearing: 1}, {From: -999999, To: 1000000, Height: 1000000, Bearing: 1000000}}
	for _, l := range [][]api.Ground{theGround(), stairs(1), stairs(20), wide} {
		wantError(t, "CheckGround", holding.CheckGround(l), api.OK)
	}
	for _, l := range [][]api.Ground{nil, {}, stairs(21)} {
		wantError(t, "CheckGround", holding.CheckGround(l), api.ErrShape)
	}
	for _, x := range []struct {
		is     api.Errno
		change func(l []api.Ground)
	}{
		{api.ErrRange, func(l []api.Ground) { l[0].From = -1000001 }},
		{api.ErrRange, func(l []api.Ground) { l[0].From = 1000001 }},
		{api.ErrRange, func(l []api.Ground) { l[1].To = 1000001 }},
		{api.ErrRange, func(l []api.Ground) { l[1].To = -1000001 }},
		{api.ErrRange, func(l []api.Ground) { l[1].Height = 1000001 }},
		{api.ErrRange, func(l []api.Ground) { l[0].Height = -1000001 }},
		{api.ErrRange, func(l []api.Ground) { l[1].Bearing = 0 }},
		{api.ErrRange, func(l []api.Ground) { l[1].Bearing = 1000001 }},
		{api.ErrRange, func(l []api.Ground) { l[0].Bearing = math.MinInt }},
		{api.ErrOrder, func(l []api.Ground) { l[0].From = 3000 }},
		{api.ErrOrder, func(l []api.Ground) { l[0].From = 3001 }},
		{api.ErrOrder, func(l []api.Ground) { l[1].From = 2999 }},
		{api.ErrOrder, func(l []api.Ground) { l[1].From = 3001 }},
		{api.ErrOrder, func(l []api.Ground) { l[1].To = 3000 }},
		{api.ErrOrder, func(l []api.Ground) { l[0].To = 2000 }},
		// Of one step ErrRange comes first, but an earlier step before a later one.
		{api.ErrRange, func(l []api.Ground) { l[1].From, l[1].Bearing = 0, 0 }},
		{api.ErrOrder, func(l []api.Ground) { l[0].From, l[1].Bearing = 3000, 0 }},
		{api.ErrRange, func(l []api.Ground) { l[0].Bearing, l[1].From = 0, 0 }},
	} {
		l := theGround()
		x.change(l)
		wantError(t, "CheckGround of a changed ground", holding.CheckGround(l), x.is)
	}
}

// P6.6: a position belongs to the step that begins there, and the last end to the last step.
func TestHeightAt(t *testing.T) {
	for _, x := range []struct {
		at, right int
		is        api.Errno
	}{
		{-501, 0, api.ErrMissing}, {-500, 0, api.OK}, {2999, 0, api.OK}, {3000, 300, api.OK}, {5999, 300, api.OK},
		{6000, 300, api.OK}, {6001, 0, api.ErrMissing}, {math.MinInt, 0, api.ErrMissing}, {math.MaxInt, 0, api.ErrMissing},
	} {
		h, e := holding.HeightAt(theGround(), x.at)
		want(t, "HeightAt", h, e, x.right, x.is)
	}
	for i := range 20 {
		h, e := holding.HeightAt(stairs(20), i)
		want(t, "HeightAt", h, e, 10*i, api.OK)
	}
	h, e := holding.HeightAt(stairs(20), 20)
	want(t, "HeightAt the end", h, e, 190, api.OK)
	h, e = holding.HeightAt(stairs(21), 0)
	want(t, "HeightAt of too many steps", h, e, 0, api.ErrShape)
	l := theGround()
	l[1].From = 2000
	h, e = holding.HeightAt(l, 10000)
	want(t, "HeightAt of a wrong ground", h, e, 0, api.ErrOrder)
}

// P6.6: the chapter's example.
func TestDatum(t *testing.T) {
	j := api.Jack{Least: 100, Most: 600, Sole: 50}
	n, e := holding.Datum(theGrid(), theGround(), j)
	want(t, "Datum", n, e, 450, api.OK)
	l, e := holding.Jacks(theGrid(), theGround(), j, 450)
	want(t, "Jacks", l, e, []int{400, 400, 100}, api.OK)
	j.Most = 300
	n, e = holding.Datum(theGrid(), theGround(), j)
	want(t, "Datum of short jacks", n, e, 0, api.ErrGround)
	for _, x := range []struct {
		most, right int
		is          api.Errno
	}{{400, 450, api.OK}, {399, 0, api.ErrGround}} {
		n, e = holding.Datum(theGrid(), theGround(), api.Jack{Least: 100, Most: x.most, Sole: 50})
		want(t, "Datum of jacks that are just long enough", n, e, x.right, x.is)
	}
	n, e = holding.Datum(theGrid(), []api.Ground{{From: 0, To: 4000, Height: -700, Bearing: 1}}, api.Jack{Least: 5, Most: 5, Sole: 10000})
	want(t, "Datum of level ground", n, e, 9305, api.OK)
	n, e = holding.Datum(theGrid(), theGround(), api.Jack{Most: 300})
	want(t, "Datum of jacks from 0", n, e, 300, api.OK)
}

// P6.6: extensions from the least to the most are accepted.
func TestJacks(t *testing.T) {
	j := api.Jack{Least: 100, Most: 600, Sole: 50}
	for _, x := range []struct {
		datum int
		right []int
		is    api.Errno
	}{
		{449, nil, api.ErrGround}, {451, []int{401, 401, 101}, api.OK}, {650, []int{600, 600, 300}, api.OK}, {651, nil, api.ErrGround},
		{-2000000, nil, api.ErrGround}, {2000000, nil, api.ErrGround}, {-2000001, nil, api.ErrRange}, {2000001, nil, api.ErrRange},
		{math.MinInt, nil, api.ErrRange}, {math.MaxInt, nil, api.ErrRange},
	} {
		l, e := holding.Jacks(theGrid(), theGround(), j, x.datum)
		want(t, "Jacks", l, e, x.right, x.is)
	}
	l, e := holding.Jacks(theGrid(), theGround(), api.Jack{Least: 100, Most: 300, Sole: 50}, 450)
	want(t, "Jacks where there is no datum", l, e, []int{}, api.ErrGround)
	l, e = holding.Jacks(theGrid(), theGround(), api.Jack{Least: 100, Most: 300, Sole: 50}, 2000001)
	want(t, "Jacks where there is no datum, and far away", l, e, []int{}, api.ErrRange)
}

// someGround is steps of small numbers under all standards of a grid of such.
func someGround(d *rand.Rand) []api.Ground {
	n := 1 + d.Intn(5)
	ends := append(append([]int{-9}, ascending(d, n-1, -8, 29)...), 30)
	out := []api.Ground{}
	for i := range n {
		out = append(out, api.Ground{From: ends[i], To: ends[i+1], Height: d.Intn(9) - 4, Bearing: 1 + d.Intn(100)})
	}
	return out
}

// P6.6, P6.11: the least datum is found among all of them.
func TestDatumByTrying(t *testing.T) {
	d := dice()
	found := 0
	for range 2000 {
		g, l := someGrid(d, 6, 3), someGround(d)
		j := api.Jack{Least: d.Intn(9), Sole: d.Intn(5)}
		j.Most = j.Least + d.Intn(8)
		right, f := 0, api.ErrGround
		for datum := 60; datum > -60; datum-- {
			fits, extensions := true, []int{}
			for _, x := range g.Along {
				h, _ := holding.HeightAt(l, x)
				n := datum - h - j.Sole
				extensions = append(extensions, n)
				fits = fits && j.Least <= n && n <= j.Most
			}
			if fits {
				right, f = datum, api.OK
			}
			got, e := holding.Jacks(g, l, j, datum)
			if fits {
				want(t, "Jacks", got, e, extensions, api.OK)
			} else {
				want(t, "Jacks", got, e, []int{}, api.ErrGround)
			}
		}
		n, e := holding.Datum(g, l, j)
		want(t, "Datum", n, e, right, f)
		if f == api.OK {
			found++
		}
	}
	if found < 500 || found > 1900 {
		t.Errorf("%d of 2000 grids have a datum", found)
	}
}

// P6.6: the errors of Datum and Jacks, and of jacks.
func TestDatumErrors(t *testing.T) {
	jacks := []fault{
		{api.ErrRange, func(x *input) { x.jack.Least = -1 }},
		{api.ErrRange, func(x *input) { x.jack.Most = 10001 }},
		{api.ErrRange, func(x *input) { x.jack.Sole = -1 }},
		{api.ErrRange, func(x *input) { x.jack.Sole = 10001 }},
		{api.ErrRange, func(x *input) { x.jack.Least, x.jack.Most = 10001, 10001 }},
		{api.ErrRange, func(x *input) { x.jack.Least, x.jack.Most = -1, -1 }},
		{api.ErrRange, func(x *input) { x.jack.Least, x.jack.Most = 601, 600 }},
	}
	inOrder(t, "Datum", func(x input) api.Errno {
		_, e := holding.Datum(x.grid, x.ground, x.jack)
		return e
	}, gridFault(), groundFault(), jacks, besideFault(), one(api.ErrGround, func(x *input) { x.jack.Most = 300 }))
	inOrder(t, "Jacks", func(x input) api.Errno {
		_, e := holding.Jacks(x.grid, x.ground, x.jack, x.datum)
		return e
	}, gridFault(), groundFault(), jackFault(), besideFault(), one(api.ErrRange, func(x *input) { x.datum = 2000001 }),
		one(api.ErrGround, func(x *input) { x.datum = 449 }))
	for _, j := range []api.Jack{{}, {Least: 10000, Most: 10000, Sole: 10000}} {
		_, e := holding.Datum(api.Grid{Along: []int{0}, Levels: []int{1}}, theGround(), j)
		wantError(t, "Datum of jacks at the limits", e, api.OK)
	}
}
