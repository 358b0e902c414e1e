package erection

import (
	"cmp"
	"slices"

	"putlog/api"
)

// Schedule returns the schedule that goes through the tasks in their first order.
func Schedule(l []api.Task, c api.Crew) ([]api.Slot, api.Errno) {
	p, e := planOf(l)
	if e != api.OK {
		return nil, e
	}
	if e := CheckCrew(c); e != api.OK {
		return nil, e
	}
	r := rosterOf(c)
	out := make([]api.Slot, len(l))
	for _, t := range p.order {
		gang, start := r.earliest(l[t], readyAt(l, out, t))
		if gang < 0 {
			return nil, api.ErrNone
		}
		out[t] = api.Slot{Task: t, Gang: gang, Start: start}
		r.occupy(gang, during(start, l[t].Minutes))
	}
	return out, api.OK
}

// CheckSchedule accepts right schedules.
func CheckSchedule(l []api.Task, c api.Crew, s []api.Slot) api.Errno {
	if e := Check(l); e != api.OK {
		return e
	}
	if e := CheckCrew(c); e != api.OK {
		return e
	}
	if len(s) != len(l) {
		return api.ErrShape
	}
	r := rosterOf(c)
	for t, slot := range s {
		if slot.Task != t {
			return api.ErrOrder
		}
		if e := r.slotError(l[t], slot); e != api.OK {
			return e
		}
		r.occupy(slot.Gang, during(slot.Start, l[t].Minutes))
	}
	for t, slot := range s {
		if slot.Start < readyAt(l, s, t) {
			return api.ErrProof
		}
	}
	return api.OK
}

// Ends returns the greatest end of slots.
func Ends(l []api.Task, s []api.Slot) (int, api.Errno) {
	if e := Check(l); e != api.OK {
		return 0, e
	}
	if len(s) != len(l) {
		return 0, api.ErrShape
	}
	last := 0
	for t, slot := range s {
		if !isFrom(0, api.MaxCoord, slot.Start) {
			return 0, api.ErrRange
		}
		last = max(last, slot.Start+l[t].Minutes)
	}
	return last, api.OK
}

// readyAt returns when the last of the tasks that a task needs ends.
func readyAt(l []api.Task, s []api.Slot, t int) int {
	last := 0
	for _, n := range l[t].Needs {
		last = max(last, s[n].Start+l[n].Minutes)
	}
	return last
}

// A span is a time from a minute to a minute, the end not included.
type span struct{ from, to int }

// during returns the time of so many minutes from a start on.
func during(start, minutes int) span { return span{start, start + minutes} }

// meets reports whether two times have a minute in common.
func (s span) meets(other span) bool { return max(s.from, other.from) < min(s.to, other.to) }

func compareSpans(s, other span) int { return cmp.Compare(s.from, other.from) }

// A roster is the gangs with their trades, and the times that are taken, ascending.
type roster struct {
	gangs  []api.Gang
	trades []map[string]bool
	busy   [][]span       // of each gang
	closed map[int][]span // of each place
}

// rosterOf returns the roster of a crew whose gangs have nothing to do yet.
func rosterOf(c api.Crew) roster {
	r := roster{gangs: c.Gangs, busy: make([][]span, len(c.Gangs)), closed: map[int][]span{}}
	for _, g := range c.Gangs {
		trades := map[string]bool{}
		for _, t := range g.Trades {
			trades[t] = true
		}
		r.trades = append(r.trades, trades)
	}
	for _, x := range c.Closed {
		r.closed[x.Place] = inserted(r.closed[x.Place], span{x.From, x.To})
	}
	return r
}

// occupy makes a gang busy for a time.
func (r roster) occupy(gang int, time span) { r.busy[gang] = inserted(r.busy[gang], time) }

// inserted puts a time into its place in a list.
func inserted(l []span, time span) []span {
	at, _ := slices.BinarySearchFunc(l, time, compareSpans)
	return slices.Insert(l, at, time)
}

// earliest returns the gang that can do a task first, if it is ready at a time, and the start; the gang is
// -1 if none can.
func (r roster) earliest(t api.Task, ready int) (gang, start int) {
	gang = -1
	for i, g := range r.gangs {
		if !r.trades[i][t.Trade] {
			continue
		}
		s := firstFree(during(max(ready, g.From), t.Minutes), merged(r.busy[i], r.closed[t.Place]))
		if s+t.Minutes <= g.To && (gang < 0 || s < start) {
			gang, start = i, s
		}
	}
	return gang, start
}

// firstFree returns the first start, not before that of a time, with which a time as long as it meets none
// of those that are taken. These are gone through once: what lies before a time does not meet later ones.
func firstFree(time span, taken []span) int {
	for {
		i := slices.IndexFunc(taken, time.meets)
		if i < 0 {
			return time.from
		}
		time = during(taken[i].to, time.to-time.from)
		taken = taken[i+1:]
	}
}

// merged returns the times of two lists as one list.
func merged(a, b []span) []span {
	out := make([]span, 0, len(a)+len(b))
	for len(a) > 0 && len(b) > 0 {
		if b[0].from < a[0].from {
			a, b = b, a
		}
		out = append(out, a[0])
		a = a[1:]
	}
	return append(append(out, a...), b...)
}

// slotError is the first error of a slot of a task, where the gangs are busy with earlier ones.
func (r roster) slotError(t api.Task, slot api.Slot) api.Errno {
	if !isFrom(0, len(r.gangs)-1, slot.Gang) {
		return api.ErrMissing
	}
	if !r.trades[slot.Gang][t.Trade] {
		return api.ErrState
	}
	g := r.gangs[slot.Gang]
	if !isFrom(g.From, g.To-t.Minutes, slot.Start) {
		return api.ErrRange
	}
	meets := during(slot.Start, t.Minutes).meets
	if slices.ContainsFunc(r.busy[slot.Gang], meets) || slices.ContainsFunc(r.closed[t.Place], meets) {
		return api.ErrClash
	}
	return api.OK
}
