package erection_test

import (
	"math"
	"math/rand"
	"slices"
	"testing"

	"putlog/api"
	"putlog/erection"
)

// P7.8: the chapter's examples.
func TestSchedule(t *testing.T) {
	l, c := thePlan(), theCrew()
	s, e := erection.Schedule(l, c)
	want(t, "Schedule", s, e, slots(0, 0, 0, 3, 0, 13, 0, 18), api.OK)
	end, e := erection.Ends(l, s)
	want(t, "Ends", end, e, 24, api.OK)
	wantError(t, "CheckSchedule", erection.CheckSchedule(l, c, s), api.OK)
	c.Closed = []api.Closure{closure(0, 5, 20)}
	wantError(t, "CheckSchedule with a closure", erection.CheckSchedule(l, c, s), api.ErrClash)
	s, e = erection.Schedule(l, c)
	want(t, "Schedule with a closure", s, e, slots(0, 0, 0, 20, 0, 3, 0, 30), api.OK)
	wantError(t, "CheckSchedule of it", erection.CheckSchedule(l, c, s), api.OK)
}

// P7.8: gaps, gangs, trades and closures.
func TestScheduleOfGangs(t *testing.T) {
	smith := func(x api.Task) api.Task { x.Trade = "smith"; return x }
	for _, x := range []struct {
		what  string
		l     []api.Task
		c     api.Crew
		right []api.Slot
		e     api.Errno
	}{
		{"no tasks", nil, theCrew(), nil, api.OK},
		{"a task as long as the time", placedFor(100), theCrew(), slots(0, 0), api.OK},
		{"a task longer than the time", placedFor(101), theCrew(), nil, api.ErrNone},
		{"more tasks than time", placedFor(60, 41), theCrew(), nil, api.ErrNone},
		{"no gang has the trade", []api.Task{smith(task("a", 0, 0))}, theCrew(), nil, api.ErrNone},
		{"the first gang that is free first", placedFor(5, 5, 5, 5), crew(gang("A", 2, 99, "scaffolder"), gang("B", 0, 99, "scaffolder"), gang("C", 0, 99, "scaffolder")),
			slots(1, 0, 2, 0, 0, 2, 1, 5), api.OK},
		{"the second trade", []api.Task{smith(task("a", 0, 1)), task("b", 0, 1)}, crew(gang("A", 3, 9, "scaffolder", "smith", "smith"), gang("B", 0, 9)),
			slots(0, 3, 0, 4), api.OK},
		{"a gap before a later task", []api.Task{task("a", 1, 5), task("b", 0, 10), task("c", 0, 3)}, closed(closure(1, 0, 20)),
			slots(0, 20, 0, 0, 0, 10), api.OK},
		{"a gap as long as the task", []api.Task{task("a", 1, 5), task("b", 0, 20)}, closed(closure(1, 0, 20)), slots(0, 20, 0, 0), api.OK},
		{"a gap too short", []api.Task{task("a", 1, 5), task("b", 0, 21)}, closed(closure(1, 0, 20)), slots(0, 20, 0, 25), api.OK},
		{"closures that overlap", placedFor(5), closed(closure(0, 30, 40), closure(0, 4, 20), closure(0, 6, 7), closure(0, 15, 26)), slots(0, 40), api.OK},
		{"closures around a gap", placedFor(4), closed(closure(0, 30, 40), closure(0, 3, 20), closure(0, 6, 7), closure(0, 15, 26)), slots(0, 26), api.OK},
		{"a closure of no minutes", placedFor(5), closed(closure(0, 3, 3)), slots(0, 0), api.OK},
		{"a closure of another place", placedFor(5), closed(closure(1, 0, 100)), slots(0, 0), api.OK},
		{"a closure up to the last start", placedFor(5), closed(closure(0, 0, 95)), slots(0, 95), api.OK},
		{"a closure beyond the last start", placedFor(5), closed(closure(0, 0, 96)), nil, api.ErrNone},
		{"no minutes within a closure", placedFor(0), closed(closure(0, 0, 100)), slots(0, 0), api.OK},
		{"no minutes within a task", []api.Task{task("a", 0, 9), task("b", 0, 0), task("c", 0, 0, 0)}, theCrew(), slots(0, 0, 0, 0, 0, 9), api.OK},
		{"no minutes at the end", []api.Task{task("a", 0, 100), task("b", 0, 0, 0)}, theCrew(), slots(0, 0, 0, 100), api.OK},
		{"a task at the end", []api.Task{task("a", 0, 100), task("b", 0, 1, 0)}, theCrew(), nil, api.ErrNone},
		{"a gang without time", placedFor(0), crew(gang("A", 7, 7, "scaffolder")), slots(0, 7), api.OK},
		{"too late for the first gang", []api.Task{task("a", 0, 8), task("b", 0, 3, 0)}, crew(gang("A", 0, 10, "scaffolder"), gang("B", 9, 12, "scaffolder")),
			slots(0, 0, 1, 9), api.OK},
		{"needs before the numbers", []api.Task{task("a", 0, 1, 1), task("b", 0, 2)}, theCrew(), slots(0, 2, 0, 0), api.OK},
	} {
		s, e := erection.Schedule(x.l, x.c)
		want(t, "Schedule with "+x.what, s, e, x.right, x.e)
	}
}

// placedFor is tasks of so many minutes, without needs.
func placedFor(minutes ...int) []api.Task {
	l := independent(len(minutes))
	for i, m := range minutes {
		l[i].Minutes = m
	}
	return l
}

func crew(gangs ...api.Gang) api.Crew { return api.Crew{Gangs: gangs} }

// closed is one gang from 0 to 100, with closures.
func closed(l ...api.Closure) api.Crew { return api.Crew{Gangs: theCrew().Gangs, Closed: l} }

// P7.8: schedules that are not right, in the order of the errors. The first slots of the fine one are for the
// gang A from 0 to 3, 3 to 13, 13 to 18 and 18 to 24; the place 0 is closed from 90 to 95.
func TestCheckScheduleErrors(t *testing.T) {
	slotFaults := func(at int) [][]fault {
		return [][]fault{
			{
				{api.ErrOrder, func(x *input) { x.slots[at].Task = at - 1 }},
				{api.ErrOrder, func(x *input) { x.slots[at].Task = 4 }},
			},
			{
				{api.ErrMissing, func(x *input) { x.slots[at].Gang = -1 }},
				{api.ErrMissing, func(x *input) { x.slots[at].Gang = 3 }},
				{api.ErrMissing, func(x *input) { x.slots[at].Gang = math.MaxInt }},
			},
			{
				{api.ErrState, func(x *input) { x.slots[at].Gang = 1 }},
				{api.ErrState, func(x *input) { x.slots[at].Gang = 2 }},
			},
			{
				{api.ErrRange, func(x *input) { x.slots[at].Start = -1 }},
				{api.ErrRange, func(x *input) { x.slots[at].Start = 100 - x.tasks[at].Minutes + 1 }},
				{api.ErrRange, func(x *input) { x.slots[at].Start = math.MaxInt }},
				{api.ErrRange, func(x *input) { x.slots[at].Start = math.MinInt }},
			},
		}
	}
	list := [][]fault{
		planFault(),
		crewFault(),
		{
			{api.ErrShape, func(x *input) { x.slots = x.slots[:3] }},
			{api.ErrShape, func(x *input) { x.slots = append(x.slots, api.Slot{Task: 4, Start: 50}) }},
		},
	}
	call := func(x input) api.Errno { return erection.CheckSchedule(x.tasks, x.crew, x.slots) }
	inOrder(t, "CheckSchedule", call, list...)
	list = slices.Concat(
		slotFaults(1),
		[][]fault{one(api.ErrClash, func(x *input) { x.slots[1].Start = 86 })},
		slotFaults(3),
		[][]fault{
			{
				{api.ErrClash, func(x *input) { x.slots[3].Start = 17 }},
				{api.ErrClash, func(x *input) { x.slots[3].Start = 85 }},
				{api.ErrClash, func(x *input) { x.slots[3].Start = 94 }},
			},
			one(api.ErrProof, func(x *input) { x.slots[0].Start = 50 }),
		},
	)
	inOrder(t, "CheckSchedule of slots", call, list...)
}

// P7.8: slots that are right in all ways but one, or in all.
func TestCheckScheduleEdges(t *testing.T) {
	none := []api.Task{task("a", 0, 10), task("b", 0, 0)}
	late := []api.Task{task("a", 0, 1, 1), task("b", 0, 2)}
	longest := []api.Task{task("a", 0, 10000)}
	always := crew(gang("A", 0, 1000000, "scaffolder"))
	for _, x := range []struct {
		what string
		l    []api.Task
		c    api.Crew
		s    []api.Slot
		is   api.Errno
	}{
		{"no tasks", nil, theCrew(), nil, api.OK},
		{"another order", thePlan(), theCrew(), slots(0, 0, 0, 8, 0, 3, 0, 18), api.OK},
		{"up to the end", thePlan(), theCrew(), slots(0, 0, 0, 3, 0, 13, 0, 94), api.OK},
		{"two gangs at a time", thePlan(), crew(gang("A", 0, 100, "scaffolder"), gang("B", 3, 8, "a", "scaffolder")), slots(0, 0, 0, 3, 1, 3, 0, 13), api.OK},
		{"a need that ends too late", thePlan(), crew(gang("A", 0, 100, "scaffolder"), gang("B", 3, 8, "scaffolder")), slots(0, 0, 0, 3, 1, 3, 0, 12), api.ErrClash},
		{"a need of another gang that ends too late", thePlan(), crew(gang("A", 0, 100, "scaffolder"), gang("B", 3, 99, "scaffolder")), slots(0, 0, 0, 3, 1, 3, 1, 12), api.ErrProof},
		{"no minutes within a task", none, theCrew(), slots(0, 0, 0, 5), api.OK},
		{"no minutes at the end", none, theCrew(), slots(0, 0, 0, 100), api.OK},
		{"no minutes beyond the end", none, theCrew(), slots(0, 0, 0, 101), api.ErrRange},
		{"no minutes within a closure", none, closed(closure(0, 10, 30)), slots(0, 0, 0, 20), api.OK},
		{"before a closure", none, closed(closure(0, 30, 40)), slots(0, 20, 0, 20), api.OK},
		{"behind a closure", none, closed(closure(0, 30, 40)), slots(0, 40, 0, 40), api.OK},
		{"within a closure", none, closed(closure(0, 0, 40)), slots(0, 20, 0, 20), api.ErrClash},
		{"around a closure", none, closed(closure(0, 31, 32)), slots(0, 30, 0, 20), api.ErrClash},
		{"around a closure of no minutes", none, closed(closure(0, 31, 31)), slots(0, 30, 0, 20), api.OK},
		{"a closure of another place", none, closed(closure(1, 0, 100)), slots(0, 30, 0, 20), api.OK},
		{"needs before the numbers", late, theCrew(), slots(0, 2, 0, 0), api.OK},
		{"needs too late", late, theCrew(), slots(0, 1, 0, 2), api.ErrProof},
		{"a clash with a later number", late, theCrew(), slots(0, 3, 0, 2), api.ErrClash},
		{"the last start", longest, always, slots(0, 990000), api.OK},
		{"behind the last start", longest, always, slots(0, 990001), api.ErrRange},
		{"the greatest start", placedFor(0), always, slots(0, 1000000), api.OK},
		{"beyond the greatest start", placedFor(0), always, slots(0, 1000001), api.ErrRange},
	} {
		wantError(t, "CheckSchedule with "+x.what, erection.CheckSchedule(x.l, x.c, x.s), x.is)
	}
}

// P7.8: the errors of Schedule.
func TestScheduleErrors(t *testing.T) {
	inOrder(t, "Schedule", func(x input) api.Errno {
		s, e := erection.Schedule(x.tasks, x.crew)
		if e != api.OK {
			want(t, "Schedule", s, e, []api.Slot{}, e)
		}
		return e
	}, planFault(), crewFault(), []fault{
		{api.ErrNone, func(x *input) { x.crew.Gangs[0].To = 23 }},
		{api.ErrNone, func(x *input) { x.tasks[3].Trade = "cook" }},
	})
}

// P7.8: ends, and their errors.
func TestEnds(t *testing.T) {
	for _, x := range []struct {
		l     []api.Task
		s     []api.Slot
		right int
	}{
		{nil, nil, 0},
		{placedFor(0), slots(0, 0), 0},
		{placedFor(10, 5), slots(7, 30, 8, 34), 40},
		{placedFor(10, 5), slots(-1, 0, 0, 34), 39},
		{placedFor(10000), []api.Slot{{Task: 9, Start: 1000000}}, 1010000},
	} {
		end, e := erection.Ends(x.l, x.s)
		want(t, "Ends", end, e, x.right, api.OK)
	}
	inOrder(t, "Ends", func(x input) api.Errno {
		end, e := erection.Ends(x.tasks, x.slots)
		if e != api.OK {
			want(t, "Ends", end, e, 0, e)
		}
		return e
	}, planFault(), []fault{
		{api.ErrShape, func(x *input) { x.slots = append(x.slots, api.Slot{}) }},
		{api.ErrShape, func(x *input) { x.slots = x.slots[1:] }},
	}, []fault{
		{api.ErrRange, func(x *input) { x.slots[0].Start = -1 }},
		{api.ErrRange, func(x *input) { x.slots[2].Start = 1000001 }},
		{api.ErrRange, func(x *input) { x.slots[2].Start = math.MaxInt }},
	})
}

// someCrew is a crew with little time.
func someCrew(d *rand.Rand) api.Crew {
	var c api.Crew
	for i := range 1 + d.Intn(3) {
		g := gang([]string{"A", "B", "C"}[i], d.Intn(4), 10+d.Intn(30))
		for _, trade := range []string{"smith", "scaffolder"} {
			if d.Intn(4) > 0 {
				g.Trades = append(g.Trades, trade)
			}
		}
		c.Gangs = append(c.Gangs, g)
	}
	for range d.Intn(5) {
		from := d.Intn(25)
		c.Closed = append(c.Closed, closure(d.Intn(4), from, from+d.Intn(8)))
	}
	return c
}

// isBusy reports whether a slot has a minute in which its gang does one of some other tasks, or its place
// is closed.
func isBusy(l []api.Task, c api.Crew, s []api.Slot, others []int, slot api.Slot) bool {
	for m := slot.Start; m < slot.Start+l[slot.Task].Minutes; m++ {
		for _, x := range c.Closed {
			if x.Place == l[slot.Task].Place && x.From <= m && m < x.To {
				return true
			}
		}
		for _, o := range others {
			if s[o].Gang == slot.Gang && s[o].Start <= m && m < s[o].Start+l[o].Minutes {
				return true
			}
		}
	}
	return false
}

// isEarly reports whether a slot starts before one that its task needs has ended.
func isEarly(l []api.Task, s []api.Slot, slot api.Slot) bool {
	return slices.ContainsFunc(l[slot.Task].Needs, func(n int) bool { return slot.Start < s[n].Start+l[n].Minutes })
}

// isOutside reports whether a slot lies outside the time of its gang.
func isOutside(l []api.Task, c api.Crew, slot api.Slot) bool {
	g := c.Gangs[slot.Gang]
	return slot.Start < g.From || slot.Start+l[slot.Task].Minutes > g.To
}

// scheduleOf is the schedule that Schedule makes: each start is tried with each gang.
func scheduleOf(l []api.Task, c api.Crew) []api.Slot {
	order, _ := erection.Order(l)
	s := make([]api.Slot, len(l))
	for i, t := range order {
		found := false
		for start := 0; start < 60 && !found; start++ {
			for g := range c.Gangs {
				slot := api.Slot{Task: t, Gang: g, Start: start}
				can := slices.Contains(c.Gangs[g].Trades, l[t].Trade)
				if !found && can && !isOutside(l, c, slot) && !isBusy(l, c, s, order[:i], slot) && !isEarly(l, s, slot) {
					s[t], found = slot, true
				}
			}
		}
		if !found {
			return nil
		}
	}
	return s
}

// checkOf is what CheckSchedule returns for as many slots as there are tasks.
func checkOf(l []api.Task, c api.Crew, s []api.Slot) api.Errno {
	earlier := []int{}
	for t, slot := range s {
		switch {
		case slot.Task != t:
			return api.ErrOrder
		case slot.Gang < 0 || slot.Gang >= len(c.Gangs):
			return api.ErrMissing
		case !slices.Contains(c.Gangs[slot.Gang].Trades, l[t].Trade):
			return api.ErrState
		case isOutside(l, c, slot):
			return api.ErrRange
		case isBusy(l, c, s, earlier, slot):
			return api.ErrClash
		}
		earlier = append(earlier, t)
	}
	for _, slot := range s {
		if isEarly(l, s, slot) {
			return api.ErrProof
		}
	}
	return api.OK
}

// P7.8, P7.11: schedules minute by minute. They are accepted, and end no earlier than the longest chain.
func TestScheduleByDefinition(t *testing.T) {
	d := dice()
	found := 0
	for range 5000 {
		l, c := somePlan(d, 9), someCrew(d)
		right := scheduleOf(l, c)
		s, e := erection.Schedule(l, c)
		if right == nil {
			want(t, "Schedule", s, e, right, api.ErrNone)
			continue
		}
		found++
		want(t, "Schedule", s, e, right, api.OK)
		wantError(t, "CheckSchedule of Schedule", erection.CheckSchedule(l, c, s), api.OK)
		end, e := erection.Ends(l, s)
		wantError(t, "Ends", e, api.OK)
		if longest, _, _ := erection.Critical(l); end < longest {
			t.Errorf("the schedule ends at %d, the longest chain at %d", end, longest)
		}
	}
	if found < 1000 || found > 4500 {
		t.Errorf("%d of 5000 plans have a schedule", found)
	}
}

// P7.8: slots of all sorts, most of them nearly right.
func TestCheckScheduleByDefinition(t *testing.T) {
	d := dice()
	errors := map[api.Errno]int{}
	for range 10000 {
		l, c := somePlan(d, 6), someCrew(d)
		s := scheduleOf(l, c)
		for range d.Intn(3) {
			if len(s) == 0 {
				break
			}
			x := &s[d.Intn(len(s))]
			switch d.Intn(12) {
			case 0:
				x.Task = d.Intn(len(s))
			case 1, 2:
				x.Gang += d.Intn(3) - 1
			default:
				x.Start += d.Intn(9) - 4
			}
		}
		if len(s) < len(l) {
			continue
		}
		right := checkOf(l, c, s)
		errors[right]++
		wantError(t, "CheckSchedule", erection.CheckSchedule(l, c, s), right)
	}
	for _, e := range []api.Errno{api.OK, api.ErrOrder, api.ErrMissing, api.ErrState, api.ErrRange, api.ErrClash, api.ErrProof} {
		if errors[e] < 50 {
			t.Errorf("only %d schedules have the error %d", errors[e], e)
		}
	}
}

// P7.8: the largest plan and crew.
func TestScheduleOfALargePlan(t *testing.T) {
	l := independent(4000)
	for i := range l {
		l[i].Trade, l[i].Minutes, l[i].Place = "smith", 1+i%7, i%2*999
	}
	c := biggest()
	for i := range c.Closed {
		c.Closed[i] = closure(i%2*999, 30*i, 30*i+9)
	}
	s, e := erection.Schedule(l, c)
	wantError(t, "Schedule", e, api.OK)
	wantError(t, "CheckSchedule", erection.CheckSchedule(l, c, s), api.OK)
}
