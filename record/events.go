package record

import (
	"slices"

	"putlog/api"
	"putlog/spelling"
)

// maxNumber is the greatest number of a design or a defect.
const maxNumber = 9999

// CheckRecord accepts what is a record.
func CheckRecord(l []api.Event) api.Errno {
	if len(l) > api.MaxEvents {
		return api.ErrLarge
	}
	open := openDefects{}
	day := 0
	for _, x := range l {
		if e := eventError(x, day, open); e != api.OK {
			return e
		}
		open.see(x)
		day = x.Day
	}
	return api.OK
}

// eventError is the first error of an event behind one of a day, where some defects are open.
func eventError(x api.Event, day int, open openDefects) api.Errno {
	_, isOpen := open[defectOf(x)]
	switch {
	case !isDay(x.Day) || !areFrom(api.EventDesign, api.EventAlteration, x.Kind) || !areFrom(0, maxNumber, x.Number):
		return api.ErrRange
	case x.Day < day:
		return api.ErrOrder
	case !isPlatformOf(x.Kind, x.Platform):
		return api.ErrName
	case x != named(x):
		return api.ErrForm
	case x.Kind == api.EventDefect && isOpen:
		return api.ErrExists
	case x.Kind == api.EventRepaired && !isOpen:
		return api.ErrMissing
	}
	return api.OK
}

// isPlatformOf reports whether an event of a kind may have a platform.
func isPlatformOf(kind int, platform string) bool {
	if kind == api.EventStorm {
		return platform == ""
	}
	return spelling.IsName(platform)
}

// named returns an event with only those fields that are named for its kind.
func named(x api.Event) api.Event {
	out := api.Event{Day: x.Day, Kind: x.Kind, Platform: x.Platform}
	switch x.Kind {
	case api.EventDesign, api.EventRepaired:
		out.Number = x.Number
	case api.EventHandover, api.EventWeekly:
		out.Passed = x.Passed
	case api.EventDefect:
		out.Number, out.Grave = x.Number, x.Grave
	}
	return out
}

// Add returns the record with another event at its end.
func Add(l []api.Event, x api.Event) ([]api.Event, api.Errno) {
	if e := CheckRecord(l); e != api.OK {
		return nil, e
	}
	return accepted(slices.Concat(l, []api.Event{x}))
}

// Correct returns the record with an event in the place of another one.
func Correct(l []api.Event, at int, x api.Event) ([]api.Event, api.Errno) {
	if e := CheckRecord(l); e != api.OK {
		return nil, e
	}
	if !areFrom(0, len(l)-1, at) {
		return nil, api.ErrMissing
	}
	out := slices.Clone(l)
	out[at] = x
	return accepted(out)
}

// accepted returns a list that is a record, or its error.
func accepted(l []api.Event) ([]api.Event, api.Errno) {
	if e := CheckRecord(l); e != api.OK {
		return nil, e
	}
	return l, api.OK
}

// Platforms returns all platforms.
func Platforms(l []api.Event) ([]string, api.Errno) {
	if e := CheckRecord(l); e != api.OK {
		return nil, e
	}
	return platformsOf(l), api.OK
}

// platformsOf returns the platforms of a record.
func platformsOf(l []api.Event) []string {
	var out []string
	for _, x := range l {
		if x.Kind != api.EventStorm {
			out = append(out, x.Platform)
		}
	}
	slices.Sort(out)
	return slices.Compact(out)
}

// isDay reports whether a number is a day.
func isDay(n int) bool { return areFrom(0, api.MaxDay, n) }

// areFrom reports whether all numbers are from low to high.
func areFrom(low, high int, numbers ...int) bool {
	for _, n := range numbers {
		if n < low || n > high {
			return false
		}
	}
	return true
}
