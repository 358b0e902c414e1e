package record

import (
	"slices"

	"putlog/api"
)

// The tags.
const (
	red = iota
	yellow
	green
)

// The reasons against a platform.
const (
	notDesigned = iota
	notHandedOver
	notFresh
	graveDefect
	lightDefect
)

// freshDays is the number of days behind an inspection on which it is still fresh.
const freshDays = 7

// Tag returns the tag of a platform on a day.
func Tag(l []api.Event, platform string, day int) (int, api.Errno) {
	if e := questionError(l, platform, day); e != api.OK {
		return 0, e
	}
	return againstOf(l, platform, day).tag(), api.OK
}

// Reasons returns the reasons against a platform on a day.
func Reasons(l []api.Event, platform string, day int) ([]int, api.Errno) {
	if e := questionError(l, platform, day); e != api.OK {
		return nil, e
	}
	var out []int
	for reason, is := range againstOf(l, platform, day) {
		if is {
			out = append(out, reason)
		}
	}
	return out, api.OK
}

// against says of each reason whether it is there.
type against [lightDefect + 1]bool

// againstOf returns the reasons against a platform on a day.
func againstOf(l []api.Event, platform string, day int) against {
	s := statusOf(l, platform, day)
	a := against{
		notDesigned:   !s.isDesigned,
		notHandedOver: !s.isHandedOver,
		notFresh:      !s.isInspected || day > s.inspected+freshDays,
	}
	for _, isGrave := range s.open {
		if isGrave {
			a[graveDefect] = true
		} else {
			a[lightDefect] = true
		}
	}
	return a
}

// tag returns the tag of a platform with these reasons against it.
func (a against) tag() int {
	switch {
	case a[notDesigned] || a[notHandedOver] || a[notFresh] || a[graveDefect]:
		return red
	case a[lightDefect]:
		return yellow
	}
	return green
}

// A status is what events tell of a platform.
type status struct {
	hasDesign    bool // there is one, valid or not
	isDesigned   bool // it is valid
	isHandedOver bool
	isInspected  bool // one passed, with none that did not and no storm behind it
	inspected    int  // the day of this one
	open         openDefects
}

// statusOf returns what the events up to a day tell of a platform.
func statusOf(l []api.Event, platform string, day int) status {
	s := status{open: openDefects{}}
	for _, x := range l {
		if x.Day <= day && (x.Platform == platform || x.Kind == api.EventStorm) {
			s.see(x)
		}
	}
	return s
}

// see changes the status by an event.
func (s *status) see(x api.Event) {
	s.open.see(x)
	switch x.Kind {
	case api.EventDesign:
		s.hasDesign, s.isDesigned, s.isHandedOver = true, true, false
	case api.EventHandover:
		s.isHandedOver = s.hasDesign && x.Passed
		s.isInspected, s.inspected = x.Passed, x.Day
	case api.EventWeekly:
		s.isInspected, s.inspected = x.Passed, x.Day
	case api.EventStorm:
		s.isInspected = false
	case api.EventAlteration:
		s.isDesigned = false
	}
}

// questionError is the first error of a record and of a question for a platform on a day.
func questionError(l []api.Event, platform string, day int) api.Errno {
	if e := CheckRecord(l); e != api.OK {
		return e
	}
	if !isDay(day) {
		return api.ErrRange
	}
	return platformError(l, platform)
}

// platformError is ErrMissing if a record has no such platform.
func platformError(l []api.Event, platform string) api.Errno {
	if !slices.Contains(platformsOf(l), platform) {
		return api.ErrMissing
	}
	return api.OK
}
