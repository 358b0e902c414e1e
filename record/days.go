package record

import (
	"slices"

	"putlog/api"
)

// History returns the tags of a platform from a day to another one.
func History(l []api.Event, platform string, from, to int) ([]api.Span, api.Errno) {
	if e := CheckRecord(l); e != api.OK {
		return nil, e
	}
	if e := daysError(from, to); e != api.OK {
		return nil, e
	}
	if e := platformError(l, platform); e != api.OK {
		return nil, e
	}
	var out []api.Span
	for _, day := range turns(l, from, to) {
		tag := againstOf(l, platform, day).tag()
		if last := len(out) - 1; last >= 0 {
			if out[last].Tag == tag {
				continue
			}
			out[last].To = day - 1
		}
		out = append(out, api.Span{From: day, To: to, Tag: tag})
	}
	return out, api.OK
}

// turns returns the first one of some days, and all those on which a tag may be another one than on the
// day before.
func turns(l []api.Event, from, to int) []int {
	out := []int{from}
	for _, x := range l {
		for _, day := range []int{x.Day, x.Day + freshDays + 1} {
			if areFrom(from, to, day) {
				out = append(out, day)
			}
		}
	}
	slices.Sort(out)
	return slices.Compact(out)
}

// daysError is the first error of the days from one to another one.
func daysError(from, to int) api.Errno {
	switch {
	case !isDay(from) || !isDay(to):
		return api.ErrRange
	case to < from:
		return api.ErrOrder
	}
	return api.OK
}

// Due returns the platforms that wait for nothing but an inspection.
func Due(l []api.Event, day int) ([]string, api.Errno) {
	return platformsThat(l, day, func(a against) bool {
		isLate := a[notFresh]
		a[notFresh] = false
		return isLate && a.tag() != red
	})
}

// Released returns the platforms that are green.
func Released(l []api.Event, day int) ([]string, api.Errno) {
	return platformsThat(l, day, func(a against) bool { return a.tag() == green })
}

// platformsThat returns the platforms of which a function says so by the reasons against them on a day.
func platformsThat(l []api.Event, day int, is func(a against) bool) ([]string, api.Errno) {
	if e := CheckRecord(l); e != api.OK {
		return nil, e
	}
	if !isDay(day) {
		return nil, api.ErrRange
	}
	var out []string
	for _, platform := range platformsOf(l) {
		if is(againstOf(l, platform, day)) {
			out = append(out, platform)
		}
	}
	return out, api.OK
}
