package erection_test

import (
	"math/rand"
	"slices"
	"testing"

	"putlog/api"
	"putlog/erection"
)

// someOrder is any order of a plan: always one of the tasks that are ready is next.
func someOrder(t *testing.T, d *rand.Rand, l []api.Task) []int {
	t.Helper()
	order, done := []int{}, []int{}
	for range l {
		ready, e := erection.Ready(l, done)
		if e != api.OK || len(ready) == 0 {
			t.Fatalf("Ready: %v, error %d", ready, e)
		}
		next := ready[d.Intn(len(ready))]
		at, _ := slices.BinarySearch(done, next)
		order, done = append(order, next), slices.Insert(done, at, next)
	}
	return order
}

// someScaffolds is scaffolds of all sorts, and towers.
func someScaffolds(d *rand.Rand, n int) []api.Scaffold {
	out := []api.Scaffold{tower(1, 2), tower(2, 2), tower(2, 3)}
	l := lattice()
	all := allMembers(l)
	for range n {
		out = append(out, someScaffold(d, l, all))
	}
	return out
}

// P7.12: in a stage a standard is loose just if it is in the whole scaffold.
func TestLooseInStages(t *testing.T) {
	d := dice()
	firsts := 0
	for _, s := range someScaffolds(d, 60) {
		l := planOf(t, s)
		order := someOrder(t, d, l)
		for range 8 {
			done := slices.Clone(order[:d.Intn(len(order)+1)])
			slices.Sort(done)
			stage, e := erection.Stage(s, l, done)
			wantError(t, "Stage", e, api.OK)
			free := 500 + d.Intn(4000)
			for i, m := range stage.Members {
				if m.Kind == api.KindStandard && isLoose(stage, m, free) != isLoose(s, s.Members[done[i]], free) {
					t.Errorf("standard %d is loose in a stage, or in the whole scaffold, alone", done[i])
				}
			}
			right := slices.IndexFunc(done, func(i int) bool {
				return s.Members[i].Kind == api.KindStandard && isLoose(s, s.Members[i], free)
			})
			if right > 0 {
				firsts++
			}
			n, e := erection.Stable(stage, free)
			want(t, "Stable of a stage", n, e, right, api.OK)
		}
	}
	if firsts < 100 {
		t.Errorf("only %d stages have a loose standard behind others", firsts)
	}
}

// P7.12: in every order a deck comes behind what carries it, and a standard of the next lift behind the
// guardrails below.
func TestOrdersOfScaffolds(t *testing.T) {
	d := dice()
	decks, rails := 0, 0
	for _, s := range someScaffolds(d, 100) {
		l := planOf(t, s)
		order := someOrder(t, d, l)
		place, e := erection.Accept(l, order)
		want(t, "Accept of an order", place, e, -1, api.OK)
		at := make([]int, len(order))
		for i, n := range order {
			at[n] = i
		}
		for i, m := range s.Members {
			for j, o := range s.Members {
				carries := m.Kind == api.KindDeck && (o.Kind == api.KindLedger || o.Kind == api.KindTransom) &&
					isCorner(s, m, o.A) && isCorner(s, m, o.B)
				guards := m.Kind == api.KindStandard && (o.Kind == api.KindGuardrail || o.Kind == api.KindToeBoard) &&
					(isStraightBelow(s.Nodes[o.A], s.Nodes[m.A]) || isStraightBelow(s.Nodes[o.B], s.Nodes[m.A]))
				if (carries || guards) && at[i] < at[j] {
					t.Errorf("member %d of kind %d is put up before member %d of kind %d", i, m.Kind, j, o.Kind)
				}
				if carries {
					decks++
				}
				if guards {
					rails++
				}
			}
		}
	}
	if decks < 100 || rails < 100 {
		t.Errorf("only %d members carry decks, %d guard standards", decks, rails)
	}
}

// P7.10, P7.11: the plan of a whole tower, put up by two gangs and taken down again.
func TestTowerUpAndDown(t *testing.T) {
	s := tower(4, 4)
	l := planOf(t, s)
	order, e := erection.Order(l)
	wantError(t, "Order", e, api.OK)
	up, e := erection.Stage(s, l, []int{})
	want(t, "the members of the first stage", len(up.Members), e, 0, api.OK)
	n, e := erection.Stable(s, 2000) // the first standard of the second lift
	want(t, "Stable", n, e, slices.Index(s.Members, api.Member{Kind: api.KindStandard, A: 10, B: 20}), api.OK)
	n, e = erection.Stable(s, 8000)
	want(t, "Stable of a height", n, e, -1, api.OK)
	slices.Reverse(order)
	place, e := erection.Dismantles(l, order)
	want(t, "Dismantles", place, e, -1, api.OK)

	c := api.Crew{Gangs: []api.Gang{gang("A", 0, 5000, "scaffolder"), gang("B", 100, 5000, "scaffolder")}, Closed: []api.Closure{closure(2, 50, 400)}}
	slots, e := erection.Schedule(l, c)
	wantError(t, "Schedule", e, api.OK)
	wantError(t, "CheckSchedule", erection.CheckSchedule(l, c, slots), api.OK)
	end, e := erection.Ends(l, slots)
	wantError(t, "Ends", e, api.OK)
	longest, chain, e := erection.Critical(l)
	wantError(t, "Critical", e, api.OK)
	if end < longest || len(chain) < 8 {
		t.Errorf("the schedule ends at %d; the longest chain %v ends at %d", end, chain, longest)
	}
	text, e := erection.Print(l)
	wantError(t, "Print", e, api.OK)
	again, line, e := erection.Parse(text)
	want(t, "Parse", []any{again, line}, e, []any{l, 0}, api.OK)
}
