package office

import (
	"cmp"

	"putlog/api"
	"putlog/exact"
	"putlog/record"
)

// Figures returns the figures of an office on a day.
func (o *Office) Figures(day int) ([]api.Figure, api.Errno) {
	if o == nil {
		return nil, api.ErrNil
	}
	hired, e := record.OnHire(o.terms, o.state.Moves, day)
	owed, f := o.owed(day)
	released, g := record.Released(o.state.Record, day)
	if e := cmp.Or(e, f, g); e != api.OK {
		return nil, e
	}
	members := o.state.Scaffold.Members
	return []api.Figure{
		count("entries", len(o.entries)),
		count("events", len(o.state.Record)),
		count("moves", len(o.state.Moves)),
		count("nodes", len(o.state.Scaffold.Nodes)),
		count("members", len(members)),
		count("decks", decksOf(members)),
		count("hired", sumOf(hired)),
		{Name: "owed", Value: owed},
		count("released", len(released)),
	}, api.OK
}

// count returns the figure of a number.
func count(name string, n int) api.Figure { return api.Figure{Name: name, Value: exact.Whole(n)} }

// decksOf returns the number of decks among members.
func decksOf(l []api.Member) int {
	n := 0
	for _, m := range l {
		if m.Kind == api.KindDeck {
			n++
		}
	}
	return n
}

// sumOf returns the sum of numbers.
func sumOf(l []int) int {
	sum := 0
	for _, n := range l {
		sum += n
	}
	return sum
}

// owed returns the total of the account of a day. It is not record.Total, which has limits.
func (o *Office) owed(day int) (api.Rat, api.Errno) {
	charges, e := record.Account(o.terms, o.state.Moves, day)
	if e != api.OK {
		return api.Rat{}, e
	}
	sum := exact.Whole(0)
	for _, c := range charges {
		sum = exact.Add(sum, exact.Whole(c.Amount))
	}
	return sum, api.OK
}
