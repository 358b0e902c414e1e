package record_test

import (
	"math/rand"
	"slices"
	"testing"

	"putlog/api"
	"putlog/record"
)

// lotsOf is the lots of moves, gone through piece by piece.
func lotsOf(t []api.Term, l []api.Move) []api.Lot {
	out := []api.Lot{}
	for _, x := range t {
		out = append(out, lotsOfPart(x.Part, l)...)
	}
	return out
}

// lotsOfPart is the lots of a part. A piece is the numbers of the moves by which it came and went.
func lotsOfPart(part string, l []api.Move) []api.Lot {
	const still = 1000
	pieces := [][2]int{}
	gone := 0
	for i, m := range l {
		for range m.Count {
			switch {
			case m.Part != part:
			case m.Kind == 0:
				pieces = append(pieces, [2]int{i, still})
			default:
				pieces[gone][1] = i
				gone++
			}
		}
	}
	out := []api.Lot{}
	for in := range l {
		for went := range still + 1 {
			n := 0
			for _, p := range pieces {
				if p == [2]int{in, went} {
					n++
				}
			}
			if n == 0 {
				continue
			}
			x := api.Lot{Part: part, Count: n, In: l[in].Day, Day: -1, Out: -1}
			if went < still {
				x.Day, x.Out = l[went].Day, l[went].Kind
			}
			out = append(out, x)
		}
	}
	return out
}

// lot is a lot of a part.
func lot(part string, count, in, day, out int) api.Lot {
	return api.Lot{Part: part, Count: count, In: in, Day: day, Out: out}
}

// P9.5: the chapter's example, and others.
func TestLots(t *testing.T) {
	terms := append(theTerms(), term("a", 0, 0, 0))
	for _, x := range []struct {
		moves []api.Move
		right []api.Lot
	}{
		{theMoves(), []api.Lot{lot("std", 4, 1, 20, 1), lot("std", 1, 1, 25, 2), lot("std", 5, 1, -1, -1)}},
		{nil, nil},
		{
			[]api.Move{delivered(1, "a", 2), delivered(1, "std", 3)},
			[]api.Lot{lot("std", 3, 1, -1, -1), lot("a", 2, 1, -1, -1)},
		},
		{
			[]api.Move{delivered(1, "a", 2), delivered(1, "a", 3), delivered(4, "a", 1), returned(4, "a", 4)},
			[]api.Lot{lot("a", 2, 1, 4, 1), lot("a", 2, 1, 4, 1), lot("a", 1, 1, -1, -1), lot("a", 1, 4, -1, -1)},
		},
		{
			[]api.Move{delivered(5, "a", 2), returned(5, "a", 1), lost(5, "a", 1), delivered(5, "a", 1)},
			[]api.Lot{lot("a", 1, 5, 5, 1), lot("a", 1, 5, 5, 2), lot("a", 1, 5, -1, -1)},
		},
		{
			[]api.Move{delivered(5, "a", 2), returned(6, "a", 2), delivered(7, "a", 2), lost(8, "a", 2), delivered(9, "a", 2)},
			[]api.Lot{lot("a", 2, 5, 6, 1), lot("a", 2, 7, 8, 2), lot("a", 2, 9, -1, -1)},
		},
		{
			[]api.Move{delivered(5, "a", 3), delivered(6, "std", 1), returned(7, "a", 1), lost(8, "std", 1), returned(9, "a", 1)},
			[]api.Lot{lot("std", 1, 6, 8, 2), lot("a", 1, 5, 7, 1), lot("a", 1, 5, 9, 1), lot("a", 1, 5, -1, -1)},
		},
	} {
		got, e := record.Lots(terms, x.moves)
		want(t, "Lots", got, e, x.right, api.OK)
		want(t, "the chapter's lots", lotsOf(terms, x.moves), api.OK, x.right, api.OK)
	}
}

// P9.5: lots of moves of chances.
func TestLotsByTheChapter(t *testing.T) {
	d := dice()
	for range 500 {
		terms := someTerms(d)
		l := someMoves(d, terms, 30)
		got, e := record.Lots(terms, l)
		want(t, "Lots", got, e, lotsOf(terms, l), api.OK)
	}
}

// manyMoves is as many moves as there may be: deliveries and losses by turns, with as many pieces as they may have.
func manyMoves(d *rand.Rand, part string) []api.Move {
	l := []api.Move{}
	for day := range 100 {
		l = append(l, delivered(day, part, 100000-d.Intn(9)))
	}
	for day := range 100 {
		l = append(l, lost(100+day, part, 50000+d.Intn(9)), returned(100+day, part, 49000+d.Intn(9)))
	}
	return l
}

// P9.5: as many moves as there may be.
func TestManyLots(t *testing.T) {
	terms := manyTerms(60)
	l := manyMoves(dice(), "p59")
	got, e := record.Lots(terms, l)
	wantError(t, "Lots", e, api.OK)
	in := 0
	for _, x := range got {
		in += x.Count
		if x.Count < 1 {
			t.Errorf("Lots: %v", x)
		}
	}
	if len(got) < 295 || in != sumOf(l, "p59", 0) {
		t.Errorf("Lots: %d of %d pieces", len(got), in)
	}
	if !slices.IsSortedFunc(got, func(x, y api.Lot) int { return x.In - y.In }) {
		t.Error("Lots are in another order than they came")
	}
}

// P9.5: begun weeks.
func TestWeeks(t *testing.T) {
	for _, x := range []struct{ in, out, least, right int }{
		{3, 9, 0, 1}, {3, 10, 0, 2}, {3, 3, 4, 4}, // the chapter's
		{0, 0, 0, 1}, {0, 0, 1, 1}, {0, 0, 2, 2}, {0, 6, 0, 1}, {0, 7, 0, 2}, {0, 13, 2, 2}, {0, 14, 2, 3}, {0, 14, 4, 4},
		{20000, 20000, 520, 520}, {0, 20000, 0, 2858}, {0, 20000, 520, 2858}, {1, 20000, 0, 2858}, {4, 20000, 0, 2857}, {5, 20000, 0, 2857},
	} {
		n, e := record.Weeks(x.in, x.out, x.least)
		want(t, "Weeks", n, e, x.right, api.OK)
	}
	for in := range 5 {
		for out := in; out < in+40; out++ {
			for least := range 8 {
				n, e := record.Weeks(in, out, least)
				want(t, "Weeks", n, e, weeksOf(in, out, least), api.OK)
			}
		}
	}
}

// weeksOf is the weeks from a day to another one, week by week.
func weeksOf(in, out, least int) int {
	weeks := 0
	for day := in; day <= out; day += 7 {
		weeks++
	}
	return max(weeks, least)
}

// P9.5: the order of the errors of weeks.
func TestWeeksErrors(t *testing.T) {
	inOrder(t, "Weeks",
		slices.Concat(
			dayFaults(func(x *input) *int { return &x.in }),
			dayFaults(func(x *input) *int { return &x.out }),
			beyond(api.ErrRange, 0, 520, func(x *input) *int { return &x.least }),
		),
		one(api.ErrOrder, func(x *input) { x.out = x.in - 1 }),
	)
	within(t, "Weeks", 0, 10, func(x *input) *int { return &x.in })
	within(t, "Weeks", 3, 20000, func(x *input) *int { return &x.out })
	within(t, "Weeks", 0, 520, func(x *input) *int { return &x.least })
}
