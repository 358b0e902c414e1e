package office_test

import (
	"math"
	"testing"

	"putlog/api"
	"putlog/exact"
	"putlog/office"
	"putlog/record"
)

// figuresOf is the figures of an office on a day, by the chapter.
func figuresOf(t *testing.T, o *office.Office, day int) []api.Figure {
	t.Helper()
	s := o.State()
	decks, hired := 0, 0
	for _, m := range s.Scaffold.Members {
		if m.Kind == api.KindDeck {
			decks++
		}
	}
	for _, m := range s.Moves {
		switch {
		case m.Day > day:
		case m.Kind == 0:
			hired += m.Count
		default:
			hired -= m.Count
		}
	}
	charges, e := record.Account(theJob().Terms, s.Moves, day)
	wantError(t, "Account", e, api.OK)
	owed, e := record.Total(charges)
	wantError(t, "Total", e, api.OK)
	released, e := record.Released(s.Record, day)
	wantError(t, "Released", e, api.OK)
	return figures(len(o.Entries()), len(s.Record), len(s.Moves), len(s.Scaffold.Nodes), len(s.Scaffold.Members), decks, hired, owed, len(released))
}

// figures is the figures with these values.
func figures(values ...int) []api.Figure {
	out := []api.Figure{}
	for i, name := range []string{"entries", "events", "moves", "nodes", "members", "decks", "hired", "owed", "released"} {
		out = append(out, api.Figure{Name: name, Value: exact.Whole(values[i])})
	}
	return out
}

// P10.7: figures.
func TestFigures(t *testing.T) {
	o := newOffice(t)
	for _, day := range []int{0, 1, 20000} {
		l, e := o.Figures(day)
		want(t, "Figures of nothing", l, e, figures(0, 0, 0, 0, 0, 0, 0, 0, 0), api.OK)
	}
	for _, line := range theLines() {
		wantError(t, "Enter", o.Enter(line), api.OK)
	}
	for day, right := range map[int][]api.Figure{
		0:     figures(18, 5, 3, 8, 11, 1, 0, 0, 0),
		1:     figures(18, 5, 3, 8, 11, 1, 0, 0, 0),
		2:     figures(18, 5, 3, 8, 11, 1, 12, 2400, 1),
		3:     figures(18, 5, 3, 8, 11, 1, 12, 2400, 0), // the defect
		4:     figures(18, 5, 3, 8, 11, 1, 12, 2400, 0),
		19:    figures(18, 5, 3, 8, 11, 1, 12, 3600, 0),
		20:    figures(18, 5, 3, 8, 11, 1, 8, 3600, 0),
		25:    figures(18, 5, 3, 8, 11, 1, 7, 1200+400+5000+2800, 0),
		20000: figures(18, 5, 3, 8, 11, 1, 7, 1200+400+5000+7*100*2857, 0),
	} {
		l, e := o.Figures(day)
		want(t, "Figures", l, e, right, api.OK)
		want(t, "the chapter's figures", figuresOf(t, o, day), e, right, api.OK)
	}
	for _, day := range []int{-1, 20001, math.MinInt, math.MaxInt} {
		l, e := o.Figures(day)
		want(t, "Figures of a wrong day", l, e, []api.Figure(nil), api.ErrRange)
	}
	var none *office.Office
	for _, day := range []int{-1, 0, 20001} {
		l, e := none.Figures(day)
		want(t, "Figures of nil", l, e, []api.Figure(nil), api.ErrNil)
	}
}

// P10.7: figures of several platforms, decks and parts.
func TestManyFigures(t *testing.T) {
	o := newOffice(t, theDeck()...)
	for _, line := range []string{
		"add 0 0 0 2000 0 0 4000", "add 0 2000 0 2000 2000 0 4000", "add 0 2000 700 2000 2000 700 4000", "add 0 0 700 2000 0 700 4000", "add 6 0 0 4000 2000 700 4000",
		"event 1 0 a 1 0 0", "event 1 0 b 2 0 0", "event 1 1 a 0 1 0", "event 1 1 b 0 1 0", "event 1 4 b 1 0 0", "event 3 0 c 1 0 0", "event 3 1 c 0 1 0", "event 9 5 b 1 0 0",
		"move 3 0 board 7", "move 3 0 std 2", "move 8 2 board 3", "move 30 0 board 1",
	} {
		wantError(t, "Enter of "+line, o.Enter(line), api.OK)
	}
	for day, right := range map[int][]api.Figure{
		1:  figures(27, 8, 4, 12, 15, 2, 0, 0, 1),
		3:  figures(27, 8, 4, 12, 15, 2, 9, 210+400, 2),
		8:  figures(27, 8, 4, 12, 15, 2, 6, 90+2100+120+400, 2),
		9:  figures(27, 8, 4, 12, 15, 2, 6, 90+2100+120+400, 1),
		10: figures(27, 8, 4, 12, 15, 2, 6, 90+2100+240+400, 1),
		11: figures(27, 8, 4, 12, 15, 2, 6, 90+2100+240+400, 0),
		30: figures(27, 8, 4, 12, 15, 2, 7, 90+2100+480+800+30, 0),
	} {
		l, e := o.Figures(day)
		want(t, "Figures", l, e, right, api.OK)
		want(t, "the chapter's figures", figuresOf(t, o, day), e, right, api.OK)
	}
}

// P10.7: what is owed is the sum of all amounts, however great.
func TestGreatFigures(t *testing.T) {
	j := theJob()
	j.Terms[0] = api.Term{Part: "std", Week: 1000000, Least: 520, Price: 1000000}
	o, e := office.New(j)
	wantError(t, "New", e, api.OK)
	for range 300 {
		wantError(t, "Enter", o.Enter("move 0 0 std 100000"), api.OK)
	}
	l, e := o.Figures(20000)
	want(t, "Figures", l, e, figures(300, 0, 300, 0, 0, 0, 30000000, 300*100000*2858*1000000, 0), api.OK)
}
