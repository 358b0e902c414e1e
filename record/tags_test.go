package record_test

import (
	"slices"
	"testing"

	"putlog/api"
	"putlog/record"
)

// eventsUpTo is the events up to a day.
func eventsUpTo(l []api.Event, day int) []api.Event {
	out := []api.Event{}
	for _, x := range l {
		if x.Day <= day {
			out = append(out, x)
		}
	}
	return out
}

// lastOf is the number of the last event of which a function says so, -1 if there is none.
func lastOf(l []api.Event, is func(x api.Event) bool) int {
	at := -1
	for i, x := range l {
		if is(x) {
			at = i
		}
	}
	return at
}

// lastKind is the number of the last event of a kind for a platform.
func lastKind(l []api.Event, platform string, kind int) int {
	return lastOf(l, func(x api.Event) bool { return x.Kind == kind && x.Platform == platform })
}

// lastInspection is the number of the last inspection of a platform that passed, or did not.
func lastInspection(l []api.Event, platform string, passed bool) int {
	return lastOf(l, func(x api.Event) bool {
		return (x.Kind == 1 || x.Kind == 2) && x.Platform == platform && x.Passed == passed
	})
}

// openNow is the numbers of the open defects of a platform that are grave, or are not.
func openNow(l []api.Event, platform string, isGrave bool) []int {
	out := []int{}
	for number := range 4 { // the records that are gone through have no greater ones
		at := lastOf(l, func(x api.Event) bool { return x.Kind == 4 && x.Platform == platform && x.Number == number })
		if at >= 0 && l[at].Grave == isGrave && isOpen(l, platform, number) {
			out = append(out, number)
		}
	}
	return out
}

// reasonsOf is the reasons against a platform on a day, by the chapter.
func reasonsOf(l []api.Event, platform string, day int) []int {
	l = eventsUpTo(l, day)
	out := []int{}
	add := func(reason int, is bool) {
		if is {
			out = append(out, reason)
		}
	}
	designed := lastKind(l, platform, 0)
	add(0, designed < 0 || lastKind(l, platform, 6) > designed)
	handed := lastKind(l, platform, 1)
	add(1, designed < 0 || handed < designed || !l[handed].Passed)
	passed := lastInspection(l, platform, true)
	add(2, passed < 0 || lastInspection(l, platform, false) > passed || lastKind(l, "", 3) > passed || day-l[passed].Day > 7)
	add(3, len(openNow(l, platform, true)) > 0)
	add(4, len(openNow(l, platform, false)) > 0)
	return out
}

// tagOf is the tag of a platform with reasons against it.
func tagOf(reasons []int) int {
	for _, r := range reasons {
		if r <= 3 {
			return 0
		}
	}
	if len(reasons) > 0 {
		return 1
	}
	return 2
}

// wantReasons checks the reasons against a platform, and its tag.
func wantReasons(t *testing.T, l []api.Event, platform string, day int, right ...int) {
	t.Helper()
	got, e := record.Reasons(l, platform, day)
	want(t, "Reasons", got, e, right, api.OK)
	want(t, "the chapter's reasons", reasonsOf(l, platform, day), api.OK, right, api.OK)
	tag, e := record.Tag(l, platform, day)
	want(t, "Tag", tag, e, tagOf(right), api.OK)
}

// theRecord is the record of the chapter's examples.
func theRecord() []api.Event { return []api.Event{design(1, "a", 7), handover(2, "a", true)} }

// P9.2: the chapter's first three examples.
func TestExamplesOfTags(t *testing.T) {
	l := theRecord()
	wantReasons(t, l, "a", 0, 0, 1, 2)
	wantReasons(t, l, "a", 1, 1, 2)
	for day := 2; day <= 9; day++ {
		wantReasons(t, l, "a", day)
	}
	wantReasons(t, l, "a", 10, 2)
	due, e := record.Due(l, 10)
	want(t, "Due", due, e, []string{"a"}, api.OK)
	stormy := append(slices.Clone(l), storm(4))
	wantReasons(t, stormy, "a", 3)
	wantReasons(t, stormy, "a", 4, 2)
	wantReasons(t, stormy, "a", 20000, 2)
	again := append(slices.Clone(stormy), weekly(4, "a", true))
	wantReasons(t, again, "a", 4)
	wantReasons(t, again, "a", 11)
	wantReasons(t, again, "a", 12, 2)
	bent := append(slices.Clone(l), light(5, "a", 3), repaired(7, "a", 3))
	wantReasons(t, bent, "a", 4)
	wantReasons(t, bent, "a", 5, 4)
	wantReasons(t, bent, "a", 6, 4)
	wantReasons(t, bent, "a", 7)
}

// P9.2: designs and hand-overs; what stands behind what, also on one day.
func TestDesignsAndHandovers(t *testing.T) {
	for _, x := range []struct {
		l       []api.Event
		reasons []int
	}{
		{[]api.Event{handover(2, "a", true)}, []int{0, 1}},
		{[]api.Event{handover(2, "a", true), design(2, "a", 1)}, []int{1}},
		{[]api.Event{handover(2, "a", true), design(2, "a", 1), weekly(2, "a", true)}, []int{1}},
		{[]api.Event{design(2, "a", 1), handover(2, "a", true)}, nil},
		{[]api.Event{design(2, "a", 1), handover(2, "a", true), design(2, "a", 1)}, []int{1}},
		{[]api.Event{design(2, "a", 1), handover(2, "a", false)}, []int{1, 2}},
		{[]api.Event{design(2, "a", 1), handover(2, "a", true), handover(2, "a", false)}, []int{1, 2}},
		{[]api.Event{design(2, "a", 1), handover(2, "a", true), handover(2, "a", false), weekly(2, "a", true)}, []int{1}},
		{[]api.Event{design(2, "a", 1), handover(2, "a", false), handover(2, "a", true)}, nil},
		{[]api.Event{design(2, "a", 1), handover(2, "a", true), weekly(2, "a", false)}, []int{2}},
		{[]api.Event{design(2, "a", 1), handover(2, "a", true), weekly(2, "a", false), weekly(2, "a", true)}, nil},
		{[]api.Event{design(2, "a", 1), handover(2, "a", true), alteration(2, "a")}, []int{0}},
		{[]api.Event{design(2, "a", 1), alteration(2, "a"), handover(2, "a", true)}, []int{0}},
		{[]api.Event{design(2, "a", 1), alteration(2, "a"), design(2, "a", 2), handover(2, "a", true)}, nil},
		{[]api.Event{alteration(2, "a"), design(2, "a", 1), handover(2, "a", true)}, nil},
		{[]api.Event{alteration(2, "a"), handover(2, "a", true)}, []int{0, 1}},
		{[]api.Event{design(2, "a", 1), handover(2, "a", true), storm(2)}, []int{2}},
		{[]api.Event{storm(2), design(2, "a", 1), handover(2, "a", true)}, nil},
		{[]api.Event{design(2, "a", 1), handover(2, "a", true), storm(2), weekly(2, "a", false)}, []int{2}},
		{[]api.Event{design(2, "a", 1), handover(2, "a", true), alteration(2, "b"), design(2, "b", 1), weekly(2, "b", false)}, nil},
		{[]api.Event{design(2, "b", 1), handover(2, "b", true), weekly(2, "a", true)}, []int{0, 1}},
		{[]api.Event{light(2, "a", 1)}, []int{0, 1, 2, 4}},
	} {
		wantReasons(t, x.l, "a", 2, x.reasons...)
	}
}

// P9.2: grave defects and others; numbers that are used again.
func TestDefects(t *testing.T) {
	l := append(theRecord(),
		grave(3, "a", 2), light(3, "a", 9999), light(3, "b", 0), repaired(4, "a", 2), light(5, "a", 2), light(5, "a", 0),
		repaired(6, "a", 9999), repaired(6, "a", 2), repaired(6, "a", 0), grave(6, "a", 2), repaired(6, "b", 0),
		repaired(7, "a", 2), grave(8, "a", 1),
	)
	for _, x := range []struct {
		day  int
		a, b []int
		tag  int
	}{
		{2, nil, nil, 2}, {3, []int{2, 9999}, []int{0}, 0}, {4, []int{9999}, []int{0}, 1},
		{5, []int{0, 2, 9999}, []int{0}, 1}, {6, []int{2}, nil, 0}, {7, nil, nil, 2}, {8, []int{1}, nil, 0},
	} {
		got, e := record.Defects(l, "a", x.day)
		want(t, "Defects of a", got, e, x.a, api.OK)
		got, e = record.Defects(l, "b", x.day)
		want(t, "Defects of b", got, e, x.b, api.OK)
		tag, e := record.Tag(l, "a", x.day)
		want(t, "Tag of a", tag, e, x.tag, api.OK)
	}
}

// P9.2: the order of the errors.
func TestTagErrors(t *testing.T) {
	for _, name := range []string{"Tag", "Reasons", "Defects"} {
		inOrder(t, name, append(recordFaults(), dayFaults(theDay), noPlatforms())...)
		within(t, name, 0, 20000, theDay)
	}
	// A platform that has its first event behind the day is there all the same.
	wantReasons(t, []api.Event{storm(2), weekly(20000, "c", true)}, "c", 0, 0, 1, 2)
	// Storms have an empty platform, which is none.
	_, e := record.Tag(storms(2, 1), "", 1)
	wantError(t, "Tag of the empty platform", e, api.ErrMissing)
}

// P9.2: reasons, tags and defects of records of chances.
func TestTagsByTheChapter(t *testing.T) {
	d := dice()
	tags := [3]int{}
	for range 3000 {
		l := someRecord(d, 40)
		for _, platform := range platformsIn(l) {
			day := d.Intn(1 + l[len(l)-1].Day + 10)
			right := reasonsOf(l, platform, day)
			wantReasons(t, l, platform, day, right...)
			tags[tagOf(right)]++
			open := slices.Concat(openNow(eventsUpTo(l, day), platform, true), openNow(eventsUpTo(l, day), platform, false))
			slices.Sort(open)
			got, e := record.Defects(l, platform, day)
			want(t, "Defects", got, e, open, api.OK)
		}
	}
	for tag, n := range tags {
		if n < 100 {
			t.Errorf("the tag %d was there %d times only", tag, n)
		}
	}
}
