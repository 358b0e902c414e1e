package yard_test

import (
	"math/rand"
	"slices"
	"testing"

	"putlog/api"
	"putlog/yard"
)

// isPermitted is the chapter's list of permitted movements.
func isPermitted(m api.Movement) bool {
	states := [2]int{m.Before, m.After}
	stays := m.From == m.To && m.From >= 0
	switch {
	case m.From == -1 && m.To == 0 && m.Before == 0 && m.After == 0:
		return true
	case m.To == -1 && m.From >= 0 && m.After == m.Before:
		return true
	case m.From >= 0 && m.To >= 0 && m.From != m.To && m.After == m.Before && (m.Before == 0 || m.To == 0):
		return true
	case stays && (states == [2]int{0, 1} || states == [2]int{0, 3} || states == [2]int{1, 3}):
		return true
	case stays && m.From == 0:
		return states == [2]int{1, 2} || states == [2]int{2, 0} || states == [2]int{2, 1} || states == [2]int{3, 0} || states == [2]int{3, 1}
	}
	return false
}

// opposite is the opposite of a movement.
func opposite(m api.Movement) api.Movement {
	return api.Movement{Part: m.Part, From: m.To, To: m.From, Before: m.After, After: m.Before, Count: m.Count}
}

// eachMovement calls a function for a movement between any two of some places, from any state to any other.
func eachMovement(call func(m api.Movement)) {
	places := []int{-1, 0, 1, 2, 98, 99}
	for _, from := range places {
		for _, to := range places {
			for before := range 4 {
				for after := range 4 {
					call(api.Movement{Part: "a", From: from, To: to, Before: before, After: after, Count: 3})
				}
			}
		}
	}
}

// moved is the stock behind a movement, in normal form, and the error of the movement.
func moved(l []api.Stock, m api.Movement) ([]api.Stock, api.Errno) {
	if !isPermitted(m) {
		return nil, api.ErrState
	}
	if m.From >= 0 && countOf(l, m.Part, m.From, m.Before) < m.Count {
		return nil, api.ErrStock
	}
	if m.To >= 0 {
		l = append(slices.Clone(l), entry(m.Part, m.To, m.After, m.Count))
	}
	l = normalOf(l)
	if m.From >= 0 {
		i := slices.IndexFunc(l, func(x api.Stock) bool { return x.Part == m.Part && x.Place == m.From && x.State == m.Before })
		l[i].Count -= m.Count
	}
	l = normalOf(l)
	if len(l) > 200 || slices.ContainsFunc(l, func(x api.Stock) bool { return x.Count > 1000000 }) {
		return nil, api.ErrLarge
	}
	return l, api.OK
}

// someMovement is a movement between few places, mostly a permitted one of parts of a stock.
func someMovement(d *rand.Rand, l []api.Stock) api.Movement {
	places := []int{-1, 0, 0, 0, 1, 99, 10}
	for {
		m := api.Movement{
			Part: partNames()[d.Intn(4)], From: places[d.Intn(7)], To: places[d.Intn(7)],
			Before: d.Intn(4) * d.Intn(2), After: d.Intn(4) * d.Intn(2), Count: 1 + d.Intn(6)*d.Intn(2),
		}
		if len(l) > 0 && d.Intn(4) > 0 {
			x := l[d.Intn(len(l))]
			m.Part, m.From, m.Before, m.Count = x.Part, x.Place, x.State, 1+d.Intn(x.Count+1)
		}
		if isPermitted(m) || d.Intn(40) == 0 {
			return m
		}
	}
}

// P8.2: which movements are permitted.
func TestCheckMovement(t *testing.T) {
	check := func(x input) api.Errno { return yard.CheckMovement(x.move) }
	inOrder(t, "CheckMovement", check, movementFaults()...)
	within(t, "CheckMovement", 1, 1000000, func(x *input) *int { return &x.move.Count }, check)
	permitted := 0
	eachMovement(func(m api.Movement) {
		right := api.ErrState
		if isPermitted(m) {
			right = api.OK
			permitted++
		}
		if e := yard.CheckMovement(m); e != right {
			t.Errorf("CheckMovement of %v: error %d, want %d", m, e, right)
		}
	})
	// a purchase; removals from five places in four states; ways from one of five places to another: good
	// to a job, in any state to the yard; three changes at each place, and five in the yard
	if permitted != 1+5*4+4*4+4*4+5*3+5 {
		t.Errorf("%d movements are permitted", permitted)
	}
}

// P8.2: the chapter's example, and other single movements.
func TestMove(t *testing.T) {
	tubes := []api.Stock{entry("tube", 0, good, 15)}
	for _, x := range []struct {
		m     api.Movement
		right []api.Stock
		is    api.Errno
	}{
		{way("tube", 0, 2, 4), []api.Stock{entry("tube", 0, 0, 11), entry("tube", 2, 0, 4)}, api.OK},
		{way("tube", 0, 2, 15), []api.Stock{entry("tube", 2, 0, 15)}, api.OK},
		{way("tube", 0, 2, 16), nil, api.ErrStock},
		{way("tubes", 0, 2, 1), nil, api.ErrStock},
		{way("tube", 2, 0, 1), nil, api.ErrStock},
		{way("tube", -1, 0, 5), []api.Stock{entry("tube", 0, 0, 20)}, api.OK},
		{way("tube", -1, 0, 999985), []api.Stock{entry("tube", 0, 0, 1000000)}, api.OK},
		{way("tube", -1, 0, 999986), nil, api.ErrLarge},
		{way("clip", -1, 0, 1000000), []api.Stock{entry("clip", 0, 0, 1000000), entry("tube", 0, 0, 15)}, api.OK},
		{way("tube", 0, -1, 5), []api.Stock{entry("tube", 0, 0, 10)}, api.OK},
		{way("tube", 0, -1, 15), nil, api.OK},
		{way("tube", 0, -1, 16), nil, api.ErrStock},
		{way("tube", -1, 2, 1), nil, api.ErrState},
		{way("tube", -1, -1, 1), nil, api.ErrState},
		{change("tube", 0, good, damaged, 3), []api.Stock{entry("tube", 0, 0, 12), entry("tube", 0, 1, 3)}, api.OK},
		{change("tube", 0, damaged, inRepair, 1), nil, api.ErrStock},
		{change("tube", 2, damaged, inRepair, 1), nil, api.ErrState},
	} {
		got, e := yard.Move(tubes, x.m)
		want(t, "Move", got, e, x.right, x.is)
	}
	// damaged parts come back to the yard, but do not go to a job
	broken := []api.Stock{entry("tube", 2, damaged, 3)}
	m := api.Movement{Part: "tube", From: 2, To: 0, Before: damaged, After: damaged, Count: 3}
	got, e := yard.Move(broken, m)
	want(t, "Move to the yard", got, e, []api.Stock{entry("tube", 0, damaged, 3)}, api.OK)
	m.To = 3
	got, e = yard.Move(broken, m)
	want(t, "Move to a job", got, e, []api.Stock{}, api.ErrState)
}

// P8.2: movements of stocks that are not in normal form, or as large as may be.
func TestMoveAtLimits(t *testing.T) {
	full := entry("a", 0, good, 1000000)
	for _, x := range []struct {
		l     []api.Stock
		m     api.Movement
		right []api.Stock
		is    api.Errno
	}{
		{[]api.Stock{entry("a", 0, 0, 2), entry("b", 0, 0, 0), entry("a", 0, 0, 3)}, way("a", 0, 1, 5), []api.Stock{entry("a", 1, 0, 5)}, api.OK},
		{[]api.Stock{full, entry("a", 0, 0, 1)}, way("a", 0, 1, 1), []api.Stock{full, entry("a", 1, 0, 1)}, api.OK},
		{[]api.Stock{full, entry("a", 0, 0, 2)}, way("a", 0, 1, 1), nil, api.ErrLarge},
		{[]api.Stock{full, full, entry("b", 0, 0, 2)}, way("b", 0, 1, 1), nil, api.ErrLarge},
		{[]api.Stock{full, full, entry("b", 0, 0, 2)}, way("b", 0, 1, 3), nil, api.ErrStock},
		{[]api.Stock{full, entry("a", 1, 0, 1)}, way("a", 1, 0, 1), nil, api.ErrLarge},
		{[]api.Stock{full, entry("a", 0, 1, 1)}, way("a", 0, -1, 1000000), []api.Stock{entry("a", 0, 1, 1)}, api.OK},
		{[]api.Stock{full, entry("a", 0, 1, 1)}, change("a", 0, 0, 1, 999999), []api.Stock{entry("a", 0, 0, 1), entry("a", 0, 1, 1000000)}, api.OK},
		{[]api.Stock{full, entry("a", 0, 1, 1)}, change("a", 0, 0, 1, 1000000), nil, api.ErrLarge},
	} {
		got, e := yard.Move(x.l, x.m)
		want(t, "Move", got, e, x.right, x.is)
	}
	l := manyEntries(200)
	l[0].Count = 2
	for _, x := range []struct {
		m  api.Movement
		is api.Errno
	}{
		{way("p1", 1, 2, 1), api.OK}, // the entry moves
		{way("p0", 0, 2, 2), api.OK},
		{way("p0", 0, 2, 1), api.ErrLarge}, // an entry stays, another one comes
		{way("p100", -1, 0, 5), api.OK},
		{way("x", -1, 0, 1), api.ErrLarge},
		{way("p0", 0, -1, 1), api.OK},
	} {
		got, e := yard.Move(l, x.m)
		right, is := moved(l, x.m)
		wantError(t, "the error that is right", is, x.is)
		want(t, "Move of 200 entries", got, e, right, is)
	}
}

// P8.2: movements of all sorts, compared with stocks that are counted again.
func TestMoveByCounting(t *testing.T) {
	d := dice()
	results := map[api.Errno]int{}
	for range 5000 {
		l := someStock(d, 30)
		m := someMovement(d, l)
		got, e := yard.Move(l, m)
		right, is := moved(l, m)
		want(t, "Move", got, e, right, is)
		results[is]++
	}
	if results[api.OK] < 1000 || results[api.ErrStock] < 500 || results[api.ErrState] < 50 {
		t.Errorf("the movements have the results %v", results)
	}
}

// P8.2: the errors of Move.
func TestMoveErrors(t *testing.T) {
	inOrder(t, "Move", func(x input) api.Errno {
		l, e := yard.Move(x.stock, x.move)
		if e != api.OK {
			want(t, "Move", l, e, []api.Stock{}, e)
		}
		return e
	}, slices.Concat(stockFaults(), movementFaults(), [][]fault{
		{
			{api.ErrStock, func(x *input) { x.move.Count = 16 }},
			{api.ErrStock, func(x *input) { x.move.Part = "tub" }},
			{api.ErrStock, func(x *input) { x.stock[0].State = damaged }},
			{api.ErrStock, func(x *input) { x.stock[0].Place = 2 }},
		},
		{
			{api.ErrLarge, func(x *input) { x.stock = append(x.stock, entry("tube", 2, good, 999997)) }},
			{api.ErrLarge, func(x *input) { x.stock = append(x.stock, entry("x", 9, 3, 1000000), entry("x", 9, 3, 1)) }},
			{api.ErrLarge, func(x *input) { x.stock = append(x.stock, manyEntries(197)...) }},
		},
	})...)
}

// P8.2, P8.9: Moves is Move one after the other, up to the first movement with an error.
func TestMoves(t *testing.T) {
	d := dice()
	complete, broken := 0, 0
	for range 3000 {
		l, list := someStock(d, 40), []api.Movement{}
		right, n, is := normalOf(l), 0, api.OK
		for range d.Intn(8) {
			m := someMovement(d, right)
			list = append(list, m)
			if is != api.OK {
				continue // it is not made
			}
			if right, is = moved(right, m); is == api.OK {
				n++
			}
		}
		got, at, e := yard.Moves(l, list)
		want(t, "Moves", []any{got, at}, e, []any{right, n}, is)
		if is == api.OK && n > 1 {
			complete++
		}
		if is != api.OK && n > 1 {
			broken++
		}
	}
	if complete < 200 || broken < 200 {
		t.Errorf("%d lists are made, %d are broken off", complete, broken)
	}
}

// P8.2: the errors of Moves, and the number of the movement.
func TestMovesErrors(t *testing.T) {
	full := []api.Stock{entry("a", 0, 0, 1000000), entry("a", 0, 0, 2)}
	fix, two := way("a", 0, -1, 2), way("a", 0, -1, 1)
	bought := []api.Movement{}
	for i := range 201 {
		bought = append(bought, way(manyEntries(201)[i].Part, -1, 0, 1))
	}
	for _, x := range []struct {
		l  []api.Stock
		m  []api.Movement
		at int
		is api.Errno
	}{
		{theStock(), nil, 0, api.OK},
		{theStock(), fine().moves, 3, api.OK},
		{full, nil, 0, api.ErrLarge},
		{full, []api.Movement{fix}, 1, api.OK},
		{full, []api.Movement{two, two}, 0, api.ErrLarge},
		{full, []api.Movement{fix, way("a", -1, 0, 1)}, 1, api.ErrLarge},
		{full, []api.Movement{fix, two, way("a", -1, 0, 1)}, 3, api.OK},
		{full, []api.Movement{fix, fix, way("", -1, 0, 1), way("a", -1, 1, 1)}, 2, api.ErrName},
		{full, []api.Movement{fix, way("a", -1, 1, 1), way("", -1, 0, 1)}, 1, api.ErrState},
		{full, []api.Movement{fix, fix, fix, way("a", 0, 1, 0), way("", -1, 0, 1)}, 3, api.ErrRange},
		{full, []api.Movement{fix, way("a", 0, 1, 1000000), way("a", 0, 1, 1)}, 2, api.ErrStock},
		{nil, bought, 200, api.ErrLarge},
		{nil, bought[:200], 200, api.OK},
		{manyEntries(201), []api.Movement{way("", 0, 0, 0)}, 0, api.ErrLarge},
		{manyEntries(201), nil, 0, api.ErrLarge},
		{[]api.Stock{entry("", 0, 0, 1)}, fine().moves, 0, api.ErrName},
		{[]api.Stock{entry("a", 0, 0, -1)}, nil, 0, api.ErrRange},
	} {
		l, at, e := yard.Moves(x.l, x.m)
		if at != x.at || e != x.is || e != api.OK && len(l) > 0 {
			t.Errorf("Moves: %v, number %d, error %d; want number %d, error %d", l, at, e, x.at, x.is)
		}
	}
	inOrder(t, "Moves", func(x input) api.Errno {
		l, at, e := yard.Moves(x.stock, append(x.moves[:1:1], x.move))
		if e != api.OK && (len(l) > 0 || at > 1) {
			t.Errorf("Moves: %v, number %d, error %d", l, at, e)
		}
		return e
	}, append(stockFaults(), movementFaults()...)...)
}

// P8.2: the opposite of movements.
func TestUndo(t *testing.T) {
	call := func(x input) api.Errno {
		m, e := yard.Undo(x.move)
		if e != api.OK {
			want(t, "Undo", m, e, api.Movement{}, e)
		}
		return e
	}
	inOrder(t, "Undo", call, movementFaults()...)
	undone := 0
	eachMovement(func(m api.Movement) {
		right, is := opposite(m), api.OK
		if !isPermitted(m) || !isPermitted(right) {
			right, is = api.Movement{}, api.ErrState
		} else {
			undone++
		}
		got, e := yard.Undo(m)
		want(t, "Undo", got, e, right, is)
	})
	if undone < 20 {
		t.Errorf("only %d movements have a permitted opposite", undone)
	}
	for _, x := range []struct {
		m, right api.Movement
		is       api.Errno
	}{
		{way("a", -1, 0, 7), way("a", 0, -1, 7), api.OK},
		{way("a", 0, -1, 1000000), way("a", -1, 0, 1000000), api.OK},
		{way("a", 3, -1, 1), api.Movement{}, api.ErrState}, // what is lost on a job
		{way("b-9", 0, 99, 1), way("b-9", 99, 0, 1), api.OK},
		{change("a", 0, damaged, inRepair, 2), change("a", 0, inRepair, damaged, 2), api.OK},
		{change("a", 0, good, damaged, 2), api.Movement{}, api.ErrState},
		{change("a", 5, good, quarantine, 2), api.Movement{}, api.ErrState},
		{change("a", 0, good, quarantine, 2), change("a", 0, quarantine, good, 2), api.OK},
		{api.Movement{Part: "a", From: 4, To: 0, Before: 3, After: 3, Count: 1}, api.Movement{}, api.ErrState},
		{api.Movement{Part: "a", From: 0, To: -1, Before: 1, After: 1, Count: 1}, api.Movement{}, api.ErrState},
	} {
		m, e := yard.Undo(x.m)
		want(t, "Undo", m, e, x.right, x.is)
	}
}
