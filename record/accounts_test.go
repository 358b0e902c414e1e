package record_test

import (
	"slices"
	"testing"

	"putlog/api"
	"putlog/record"
)

// accountOf is the account of a day, by the chapter.
func accountOf(t []api.Term, l []api.Move, day int) []api.Charge {
	out := []api.Charge{}
	for _, x := range t {
		for _, lot := range lotsOfPart(x.Part, movesIn(l, day)) {
			charge := api.Charge{Part: x.Part, Count: lot.Count}
			switch lot.Out {
			case -1:
				charge.Weeks = weeksOf(lot.In, day, x.Least)
			case 1:
				charge.Weeks = weeksOf(lot.In, lot.Day, x.Least)
			case 2:
				charge.Weeks = weeksOf(lot.In, lot.Day, x.Least)
				charge.Amount = lot.Count * x.Price
			}
			charge.Amount += lot.Count * charge.Weeks * x.Week
			out = append(out, charge)
		}
	}
	return out
}

// amountOf is the sum of the amounts of charges.
func amountOf(l []api.Charge) int {
	sum := 0
	for _, x := range l {
		sum += x.Amount
	}
	return sum
}

// charges is charges for a part; Count, Weeks and Amount by turns.
func charges(part string, l ...int) []api.Charge {
	out := []api.Charge{}
	for i := 0; i < len(l); i += 3 {
		out = append(out, api.Charge{Part: part, Count: l[i], Weeks: l[i+1], Amount: l[i+2]})
	}
	return out
}

// P9.6: the chapter's example, and what it comes from.
func TestAccount(t *testing.T) {
	for _, x := range []struct {
		day   int
		right []api.Charge
		total int
	}{
		{0, nil, 0},
		{1, charges("std", 10, 2, 2000), 2000},
		{14, charges("std", 10, 2, 2000), 2000},
		{15, charges("std", 10, 3, 3000), 3000},
		{19, charges("std", 10, 3, 3000), 3000},
		{20, charges("std", 4, 3, 1200, 6, 3, 1800), 3000},
		{22, charges("std", 4, 3, 1200, 6, 4, 2400), 3600},
		{25, charges("std", 4, 3, 1200, 1, 4, 5400, 5, 4, 2000), 8600},
		{29, charges("std", 4, 3, 1200, 1, 4, 5400, 5, 5, 2500), 9100},
	} {
		got, e := record.Account(theTerms(), theMoves(), x.day)
		want(t, "Account", got, e, x.right, api.OK)
		want(t, "the chapter's account", accountOf(theTerms(), theMoves(), x.day), api.OK, x.right, api.OK)
		sum, e := record.Total(got)
		want(t, "Total", sum, e, x.total, api.OK)
	}
	// Weeks and losses that cost nothing are charged all the same.
	got, e := record.Account([]api.Term{term("a", 0, 3, 0)}, []api.Move{delivered(2, "a", 9), lost(2, "a", 1)}, 2)
	want(t, "Account of what costs nothing", got, e, charges("a", 1, 3, 0, 8, 3, 0), api.OK)
	got, e = record.Account(nil, nil, 2)
	want(t, "Account of nothing", got, e, nil, api.OK)
}

// P9.6: accounts of moves of chances.
func TestAccountByTheChapter(t *testing.T) {
	d := dice()
	for range 500 {
		terms := someTerms(d)
		l := someMoves(d, terms, 20)
		from := d.Intn(50)
		to := from + d.Intn(50)
		right := accountOf(terms, l, to)
		got, e := record.Account(terms, l, to)
		want(t, "Account", got, e, right, api.OK)
		sum, e := record.Total(got)
		want(t, "Total", sum, e, amountOf(right), api.OK)
		n, e := record.Invoice(terms, l, from, to)
		want(t, "Invoice", n, e, amountOf(right)-amountOf(accountOf(terms, l, from)), api.OK)
	}
}

// P9.6: the greatest account.
func TestGreatestAccount(t *testing.T) {
	terms := []api.Term{term("a", 1000000, 520, 1000000)}
	l := slices.Repeat([]api.Move{delivered(0, "a", 100000)}, 300)
	got, e := record.Account(terms, l, 20000)
	want(t, "Account", got, e, slices.Repeat(charges("a", 100000, 2858, 285800000000000), 300), api.OK)
	sum, e := record.Total(got)
	want(t, "Total", sum, e, 85740000000000000, api.OK)
	n, e := record.Invoice(terms, l, 0, 20000)
	want(t, "Invoice", n, e, 85740000000000000-300*100000*520*1000000, api.OK)
	l = append(l[:150:150], slices.Repeat([]api.Move{lost(20000, "a", 100000)}, 150)...)
	got, e = record.Account(terms, l, 20000)
	want(t, "Account", got, e, slices.Repeat(charges("a", 100000, 2858, 285900000000000), 150), api.OK)
}

// P9.6: totals.
func TestTotal(t *testing.T) {
	inOrder(t, "Total",
		one(api.ErrLarge, func(x *input) { x.charges = append(x.charges, make([]api.Charge, 1999)...) }),
		slices.Concat(
			beyond(api.ErrRange, 0, 1000000000000000, func(x *input) *int { return &x.charges[0].Amount }),
			beyond(api.ErrRange, 0, 1000000000000000, func(x *input) *int { return &x.charges[1].Amount }),
		),
	)
	within(t, "Total", 0, 1000000000000000, func(x *input) *int { return &x.charges[1].Amount })
	for _, x := range []struct {
		l     []api.Charge
		right int
	}{
		{nil, 0},
		{charges("std", 4, 3, 1200, 1, 4, 5400, 5, 4, 2000), 8600},
		{charges("no name", -4, -3, 1200, 1<<62, 1<<62, 1), 1201},
		{slices.Repeat(charges("", 0, 0, 1000000000000000), 2000), 2000000000000000000},
	} {
		sum, e := record.Total(x.l)
		want(t, "Total", sum, e, x.right, api.OK)
	}
}

// P9.6: invoices.
func TestInvoice(t *testing.T) {
	inOrder(t, "Invoice", append(moveFaults(), spanFaults()...)...)
	within(t, "Invoice", 0, 14, func(x *input) *int { return &x.from })
	within(t, "Invoice", 2, 20000, func(x *input) *int { return &x.to })
	for _, x := range []struct{ from, to, right int }{
		{1, 25, 6600}, // the chapter's
		{0, 1, 2000}, {1, 14, 0}, {1, 15, 1000}, {1, 1, 0}, {25, 25, 0}, {24, 25, 5000}, {25, 28, 0}, {25, 29, 500}, {0, 25, 8600}, {20000, 20000, 0},
	} {
		n, e := record.Invoice(theTerms(), theMoves(), x.from, x.to)
		want(t, "Invoice", n, e, x.right, api.OK)
	}
}
