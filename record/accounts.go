package record

import "putlog/api"

// The limits of charges.
const (
	maxCharges = 2000
	maxAmount  = 1000000000000000
)

// Account returns the charges for the lots of the moves up to a day.
func Account(t []api.Term, l []api.Move, day int) ([]api.Charge, api.Errno) {
	if e := CheckMoves(t, l); e != api.OK {
		return nil, e
	}
	if !isDay(day) {
		return nil, api.ErrRange
	}
	return accountOf(t, l, day), api.OK
}

// accountOf returns the account of a day.
func accountOf(t []api.Term, l []api.Move, day int) []api.Charge {
	var out []api.Charge
	for _, x := range t {
		for _, lot := range lotsOf(x.Part, movesUpTo(l, day)) {
			out = append(out, chargeOf(x, lot, day))
		}
	}
	return out
}

// chargeOf returns the charge for a lot on a day.
func chargeOf(t api.Term, lot api.Lot, day int) api.Charge {
	if lot.Out != still {
		day = lot.Day
	}
	weeks := weeksOf(lot.In, day, t.Least)
	price := weeks * t.Week
	if lot.Out == api.MoveLost {
		price += t.Price
	}
	return api.Charge{Part: lot.Part, Count: lot.Count, Weeks: weeks, Amount: lot.Count * price}
}

// Total returns the sum of the amounts of charges.
func Total(l []api.Charge) (int, api.Errno) {
	if len(l) > maxCharges {
		return 0, api.ErrLarge
	}
	for _, x := range l {
		if !areFrom(0, maxAmount, x.Amount) {
			return 0, api.ErrRange
		}
	}
	return sumOf(l), api.OK
}

// sumOf returns the sum of amounts.
func sumOf(l []api.Charge) int {
	sum := 0
	for _, x := range l {
		sum += x.Amount
	}
	return sum
}

// Invoice returns what the account of a day is more than that of an earlier one.
func Invoice(t []api.Term, l []api.Move, from, to int) (int, api.Errno) {
	if e := CheckMoves(t, l); e != api.OK {
		return 0, e
	}
	if e := daysError(from, to); e != api.OK {
		return 0, e
	}
	return sumOf(accountOf(t, l, to)) - sumOf(accountOf(t, l, from)), api.OK
}
