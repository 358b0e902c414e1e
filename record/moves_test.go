package record_test

import (
	"math/rand"
	"slices"
	"testing"

	"putlog/api"
	"putlog/record"
)

// partNames is the parts of terms of chances.
func partNames() []string { return []string{"std", "board", "a", "A"} }

// someTerms is terms of some parts.
func someTerms(d *rand.Rand) []api.Term {
	l := []api.Term{}
	for _, i := range d.Perm(4)[:d.Intn(5)] {
		l = append(l, term(partNames()[i], d.Intn(4)*d.Intn(50), d.Intn(4), d.Intn(3)*d.Intn(500)))
	}
	return l
}

// movesError is the error of moves, by the chapter, where the terms have none.
func movesError(t []api.Term, l []api.Move) api.Errno {
	if len(l) > 300 {
		return api.ErrLarge
	}
	for i, m := range l {
		if m.Day < 0 || m.Day > 20000 || m.Kind < 0 || m.Kind > 2 || m.Count < 1 || m.Count > 100000 {
			return api.ErrRange
		}
		if i > 0 && m.Day < l[i-1].Day {
			return api.ErrOrder
		}
		if !slices.ContainsFunc(t, func(x api.Term) bool { return x.Part == m.Part }) {
			return api.ErrMissing
		}
		if m.Kind > 0 && m.Count > balanceOf(m.Part, l[:i])[3] {
			return api.ErrStock
		}
	}
	return api.OK
}

// sumOf is the sum of the counts of a part and a kind.
func sumOf(l []api.Move, part string, kind int) int {
	sum := 0
	for _, m := range l {
		if m.Part == part && m.Kind == kind {
			sum += m.Count
		}
	}
	return sum
}

// balanceOf is the balance of a part.
func balanceOf(part string, l []api.Move) [4]int {
	b := [4]int{sumOf(l, part, 0), sumOf(l, part, 1), sumOf(l, part, 2), 0}
	b[3] = b[0] - b[1] - b[2]
	return b
}

// someMoves is at most so many moves that have no error.
func someMoves(d *rand.Rand, t []api.Term, most int) []api.Move {
	l := []api.Move{}
	step, day := d.Intn(9), d.Intn(3)
	for range d.Intn(most + 1) {
		day += d.Intn(step + 1)
		m := api.Move{Day: day, Kind: d.Intn(3), Part: partNames()[d.Intn(4)], Count: 1 + d.Intn(9)}
		if movesError(t, append(slices.Clone(l), m)) == api.OK {
			l = append(l, m)
		}
	}
	return l
}

// movesIn is the moves up to a day.
func movesIn(l []api.Move, day int) []api.Move {
	out := []api.Move{}
	for _, m := range l {
		if m.Day <= day {
			out = append(out, m)
		}
	}
	return out
}

// P9.4: right terms.
func TestCheckTerms(t *testing.T) {
	inOrder(t, "CheckTerms", termFaults()...)
	for i := range 2 {
		within(t, "CheckTerms", 0, 1000000, func(x *input) *int { return &x.terms[i].Week })
		within(t, "CheckTerms", 0, 520, func(x *input) *int { return &x.terms[i].Least })
		within(t, "CheckTerms", 0, 1000000, func(x *input) *int { return &x.terms[i].Price })
	}
	for _, x := range []struct {
		terms []api.Term
		right api.Errno
	}{
		{nil, api.OK},
		{manyTerms(60), api.OK},
		{manyTerms(61), api.ErrLarge},
		{[]api.Term{term("abcdefghijkl", 0, 0, 0), term("Z9-", 0, 0, 0), term("z9-", 0, 0, 0)}, api.OK},
		{[]api.Term{term("a", 0, 0, 0), term("b", 0, 0, 0), term("a", 1, 0, 0)}, api.ErrExists},
		{[]api.Term{term("a", 0, 0, 0), term("a", -1, 0, 0)}, api.ErrExists},
		{[]api.Term{term("a", -1, 0, 0), term("a", 0, 0, 0)}, api.ErrRange},
	} {
		wantError(t, "CheckTerms", record.CheckTerms(x.terms), x.right)
	}
}

// P9.4: the order of the errors of moves.
func TestCheckMovesErrors(t *testing.T) {
	inOrder(t, "CheckMoves", moveFaults()...)
	inOrder(t, "Lots", moveFaults()...)
	for _, name := range []string{"OnHire", "Balance", "Account"} {
		inOrder(t, name, append(moveFaults(), dayFaults(theDay))...)
		within(t, name, 0, 20000, theDay)
	}
}

// P9.4: right moves.
func TestCheckMoves(t *testing.T) {
	terms := append(theTerms(), term("a", 0, 0, 0))
	for _, x := range []struct {
		moves []api.Move
		right api.Errno
	}{
		{nil, api.OK},
		{theMoves(), api.OK},
		{[]api.Move{delivered(0, "std", 1)}, api.OK},
		{[]api.Move{delivered(20000, "std", 100000), returned(20000, "std", 100000)}, api.OK},
		{[]api.Move{delivered(3, "std", 100000), delivered(3, "std", 100000), lost(3, "std", 100000), lost(3, "std", 100000)}, api.OK},
		{[]api.Move{delivered(3, "std", 100000), delivered(3, "std", 1), lost(3, "std", 100000), returned(3, "std", 2)}, api.ErrStock},
		{[]api.Move{delivered(3, "std", 4), returned(3, "std", 2), lost(3, "std", 2)}, api.OK},
		{[]api.Move{delivered(3, "std", 4), returned(3, "std", 2), lost(3, "std", 3)}, api.ErrStock},
		{[]api.Move{delivered(3, "std", 4), returned(3, "std", 5), delivered(3, "std", 5)}, api.ErrStock},
		{[]api.Move{delivered(3, "std", 4), returned(3, "a", 1)}, api.ErrStock},
		{[]api.Move{delivered(3, "std", 4), delivered(2, "a", 1)}, api.ErrOrder},
		{[]api.Move{delivered(3, "b", 4)}, api.ErrMissing},
		{[]api.Move{returned(3, "b", 4)}, api.ErrMissing},
		{slices.Repeat([]api.Move{delivered(3, "std", 100000)}, 300), api.OK},
		{slices.Repeat([]api.Move{delivered(3, "std", 1)}, 301), api.ErrLarge},
	} {
		wantError(t, "CheckMoves", record.CheckMoves(terms, x.moves), x.right)
	}
	wantError(t, "CheckMoves without terms", record.CheckMoves(nil, nil), api.OK)
	wantError(t, "CheckMoves without terms", record.CheckMoves(nil, theMoves()), api.ErrMissing)
}

// P9.4: moves with something wrong anywhere.
func TestCheckMovesByTheChapter(t *testing.T) {
	d := dice()
	errors := count{}
	for range 10000 {
		terms := someTerms(d)
		l := someMoves(d, terms, 30)
		for range d.Intn(3) {
			if len(l) == 0 {
				break
			}
			m := &l[d.Intn(len(l))]
			switch d.Intn(4) {
			case 0:
				m.Day += d.Intn(9) - 4
			case 1:
				m.Kind = d.Intn(5) - 1
			case 2:
				m.Part = []string{"std", "a", "tube"}[d.Intn(3)]
			case 3:
				m.Count = []int{0, 1, 3, 20, 100000, 100001}[d.Intn(6)]
			}
		}
		right := movesError(terms, l)
		wantError(t, "CheckMoves", record.CheckMoves(terms, l), right)
		errors[right]++
	}
	errors.enough(t, 100, api.OK, api.ErrRange, api.ErrOrder, api.ErrMissing, api.ErrStock)
}

// P9.4 and P9.6: how many are on hire, and balances; the chapter's example is among them.
func TestBalance(t *testing.T) {
	terms := []api.Term{term("board", 1, 0, 0), term("std", 100, 2, 5000), term("tube", 1, 0, 0)}
	l := append(theMoves(), delivered(25, "board", 7), returned(26, "board", 7), delivered(26, "board", 2))
	for _, x := range []struct {
		day   int
		right [][4]int
	}{
		{0, [][4]int{{}, {}, {}}},
		{1, [][4]int{{}, {10, 0, 0, 10}, {}}},
		{19, [][4]int{{}, {10, 0, 0, 10}, {}}},
		{20, [][4]int{{}, {10, 4, 0, 6}, {}}},
		{25, [][4]int{{7, 0, 0, 7}, {10, 4, 1, 5}, {}}},
		{26, [][4]int{{9, 7, 0, 2}, {10, 4, 1, 5}, {}}},
		{20000, [][4]int{{9, 7, 0, 2}, {10, 4, 1, 5}, {}}},
	} {
		got, e := record.Balance(terms, l, x.day)
		want(t, "Balance", got, e, x.right, api.OK)
		hired, e := record.OnHire(terms, l, x.day)
		want(t, "OnHire", hired, e, []int{x.right[0][3], x.right[1][3], x.right[2][3]}, api.OK)
	}
	got, e := record.Balance(nil, nil, 3)
	want(t, "Balance of nothing", got, e, nil, api.OK)
	d := dice()
	for range 2000 {
		terms := someTerms(d)
		l := someMoves(d, terms, 30)
		day := d.Intn(60)
		right, on := [][4]int{}, []int{}
		for _, x := range terms {
			b := balanceOf(x.Part, movesIn(l, day))
			right, on = append(right, b), append(on, b[3])
		}
		got, e := record.Balance(terms, l, day)
		want(t, "Balance", got, e, right, api.OK)
		hired, e := record.OnHire(terms, l, day)
		want(t, "OnHire", hired, e, on, api.OK)
	}
}
