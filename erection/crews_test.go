package erection_test

import (
	"math"
	"strconv"
	"testing"

	"putlog/api"
	"putlog/erection"
)

// biggest is a crew with all numbers at their limits.
func biggest() api.Crew {
	var c api.Crew
	for i := range 10 {
		c.Gangs = append(c.Gangs, gang("gang-"+strconv.Itoa(i), 0, 1000000, "smith", "smith"))
	}
	for range 40 {
		c.Closed = append(c.Closed, closure(999, 0, 1000000))
	}
	return c
}

// P7.7: crews.
func TestCheckCrew(t *testing.T) {
	for _, c := range []api.Crew{theCrew(), biggest(), {Gangs: []api.Gang{{Name: "A"}}, Closed: []api.Closure{{}}}} {
		wantError(t, "CheckCrew", erection.CheckCrew(c), api.OK)
	}
	for _, x := range []struct {
		is     api.Errno
		change func(c *api.Crew)
	}{
		{api.ErrShape, func(c *api.Crew) { c.Gangs = nil }},
		{api.ErrShape, func(c *api.Crew) { c.Gangs = append(c.Gangs, gang("B", 0, 1)) }},
		{api.ErrShape, func(c *api.Crew) { c.Closed = append(c.Closed, closure(0, 0, 1)) }},
		{api.ErrName, func(c *api.Crew) { c.Gangs[9].Name = "" }},
		{api.ErrName, func(c *api.Crew) { c.Gangs[0].Name = "abcdefghijklm" }},
		{api.ErrName, func(c *api.Crew) { c.Gangs[5].Trades = []string{"smith", ""} }},
		{api.ErrName, func(c *api.Crew) { c.Gangs[5].Trades = []string{"9", "smith"} }},
		{api.ErrExists, func(c *api.Crew) { c.Gangs[9].Name = "gang-0" }},
		{api.ErrExists, func(c *api.Crew) { c.Gangs[1].Name = "gang-0" }},
		{api.ErrRange, func(c *api.Crew) { c.Gangs[0].From = -1 }},
		{api.ErrRange, func(c *api.Crew) { c.Gangs[0].From = 1000001 }},
		{api.ErrRange, func(c *api.Crew) { c.Gangs[9].To = 1000001 }},
		{api.ErrRange, func(c *api.Crew) { c.Gangs[9].From, c.Gangs[9].To = 6, 5 }},
		{api.ErrRange, func(c *api.Crew) { c.Gangs[9].To = math.MinInt }},
		{api.ErrRange, func(c *api.Crew) { c.Closed[0].Place = -1 }},
		{api.ErrRange, func(c *api.Crew) { c.Closed[39].Place = 1000 }},
		{api.ErrRange, func(c *api.Crew) { c.Closed[39].From = -1 }},
		{api.ErrRange, func(c *api.Crew) { c.Closed[0].From, c.Closed[0].To = 1, 0 }},
		{api.ErrRange, func(c *api.Crew) { c.Closed[0].To = 1000001 }},
		{api.ErrRange, func(c *api.Crew) { c.Closed[20].To = math.MaxInt }},
		{api.OK, func(c *api.Crew) { c.Gangs[0].From, c.Gangs[0].Trades = 1000000, nil }},
		{api.OK, func(c *api.Crew) { c.Closed[0] = closure(0, 1000000, 1000000) }},
	} {
		c := biggest()
		x.change(&c)
		wantError(t, "CheckCrew of a changed crew", erection.CheckCrew(c), x.is)
	}
}

// P7.7: the order of the errors of a crew: gang by gang, then closure by closure.
func TestCheckCrewOrder(t *testing.T) {
	faults := func(at int) [][]fault {
		return [][]fault{
			{
				{api.ErrName, func(x *input) { x.crew.Gangs[at].Name += " " }},
				{api.ErrName, func(x *input) { x.crew.Gangs[at].Trades = []string{"a", "b c"} }},
			},
			one(api.ErrExists, func(x *input) { x.crew.Gangs[at].Name = "A" }),
			one(api.ErrRange, func(x *input) { x.crew.Gangs[at].From = -1 }),
		}
	}
	list := append([][]fault{{
		{api.ErrShape, func(x *input) { x.crew.Gangs = append(x.crew.Gangs, make([]api.Gang, 8)...) }},
		{api.ErrShape, func(x *input) { x.crew.Closed = append(x.crew.Closed, make([]api.Closure, 40)...) }},
	}}, faults(1)...)
	list = append(list, faults(2)...)
	list = append(list, one(api.ErrRange, func(x *input) { x.crew.Closed[0].Place = -1 }))
	inOrder(t, "CheckCrew", func(x input) api.Errno { return erection.CheckCrew(x.crew) }, list...)
}
