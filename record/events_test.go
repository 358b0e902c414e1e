package record_test

import (
	"math/rand"
	"slices"
	"strings"
	"testing"

	"putlog/api"
	"putlog/record"
	"putlog/spelling"
)

// namedFor says which fields are named for each kind: N is Number, P is Passed, G is Grave.
func namedFor(kind int) string { return []string{"N", "P", "P", "", "NG", "N", ""}[kind] }

// isOpen reports whether a defect is open behind some events.
func isOpen(l []api.Event, platform string, number int) bool {
	isOf := func(kind int) func(x api.Event) bool {
		return func(x api.Event) bool { return x.Kind == kind && x.Platform == platform && x.Number == number }
	}
	for i, x := range l {
		if isOf(4)(x) && !slices.ContainsFunc(l[i+1:], isOf(5)) {
			return true
		}
	}
	return false
}

// recordError is the error of a record, by the chapter.
func recordError(l []api.Event) api.Errno {
	if len(l) > 400 {
		return api.ErrLarge
	}
	for i, x := range l {
		if e := nextError(l[:i], x); e != api.OK {
			return e
		}
	}
	return api.OK
}

// nextError is the error of an event behind some others.
func nextError(l []api.Event, x api.Event) api.Errno {
	if x.Day < 0 || x.Day > 20000 || x.Kind < 0 || x.Kind > 6 || x.Number < 0 || x.Number > 9999 {
		return api.ErrRange
	}
	if len(l) > 0 && x.Day < l[len(l)-1].Day {
		return api.ErrOrder
	}
	if x.Kind == 3 && x.Platform != "" || x.Kind != 3 && !spelling.IsName(x.Platform) {
		return api.ErrName
	}
	lacks := func(letter string) bool { return !strings.Contains(namedFor(x.Kind), letter) }
	if x.Number != 0 && lacks("N") || x.Passed && lacks("P") || x.Grave && lacks("G") {
		return api.ErrForm
	}
	if x.Kind == 4 && isOpen(l, x.Platform, x.Number) {
		return api.ErrExists
	}
	if x.Kind == 5 && !isOpen(l, x.Platform, x.Number) {
		return api.ErrMissing
	}
	return api.OK
}

// someEvent is an event of small numbers, the day being at most so much behind another one. Often it has no
// error; its kinds are such that platforms are green and yellow now and then.
func someEvent(d *rand.Rand, platforms, day, most int) api.Event {
	kinds := []int{0, 0, 1, 1, 1, 1, 1, 2, 2, 2, 3, 4, 4, 5, 5, 5, 5, 5, 5, 6}
	x := api.Event{Day: day + d.Intn(most+1), Kind: kinds[d.Intn(len(kinds))], Platform: platformNames()[d.Intn(platforms)]}
	if x.Kind == 3 {
		x.Platform = ""
	}
	named := namedFor(x.Kind)
	if strings.Contains(named, "N") {
		x.Number = d.Intn(3)
	}
	x.Passed = strings.Contains(named, "P") && d.Intn(4) > 0
	x.Grave = strings.Contains(named, "G") && d.Intn(3) == 0
	return x
}

// someRecord is a record with at most so many events.
func someRecord(d *rand.Rand, most int) []api.Event {
	l := []api.Event{}
	platforms, step, day := 1+d.Intn(4), d.Intn(6), d.Intn(3)
	for range d.Intn(most + 1) {
		if x := someEvent(d, platforms, day, step); nextError(l, x) == api.OK {
			l = append(l, x)
			day = x.Day
		}
	}
	return l
}

// spoiled is an event of which something is changed.
func spoiled(d *rand.Rand, x api.Event) api.Event {
	switch d.Intn(8) {
	case 0:
		x.Day += d.Intn(9) - 4
	case 1:
		x.Kind = d.Intn(9) - 1
	case 2:
		x.Platform = []string{"", "a", "b", "c d"}[d.Intn(4)]
	case 3:
		x.Number = []int{-1, 0, 1, 9999, 10000}[d.Intn(5)]
	case 4:
		x.Passed = !x.Passed
	case 5:
		x.Grave = !x.Grave
	case 6:
		return light(x.Day, x.Platform, d.Intn(3))
	case 7:
		return someEvent(d, 2, x.Day, 0)
	}
	return x
}

// count counts errors in tests that need enough of each.
type count map[api.Errno]int

// enough checks that each of some errors was there.
func (c count) enough(t *testing.T, least int, errors ...api.Errno) {
	t.Helper()
	for _, e := range errors {
		if c[e] < least {
			t.Errorf("error %d was there %d times only", e, c[e])
		}
	}
}

// P9.1: the order of the errors of records.
func TestCheckRecordErrors(t *testing.T) {
	inOrder(t, "CheckRecord", recordFaults()...)
	inOrder(t, "Platforms", recordFaults()...)
}

// P9.1: which lists are records.
func TestCheckRecord(t *testing.T) {
	for _, x := range []struct {
		l     []api.Event
		right api.Errno
	}{
		{nil, api.OK},
		{[]api.Event{}, api.OK},
		{[]api.Event{design(0, "a", 0)}, api.OK},
		{[]api.Event{design(20000, "abcdefghijkl", 9999)}, api.OK},
		{[]api.Event{storm(20000), storm(20000)}, api.OK},
		{[]api.Event{handover(3, "Z9-", false), weekly(3, "a", true), alteration(3, "a")}, api.OK},
		{[]api.Event{grave(3, "a", 0), light(3, "a", 9999)}, api.OK},
		{storms(400, 3), api.OK},
		{storms(401, 3), api.ErrLarge},
		{[]api.Event{storm(2), storm(1)}, api.ErrOrder},
		{[]api.Event{storm(2), storm(2), storm(3), storm(2)}, api.ErrOrder},
		{[]api.Event{{Kind: 3, Platform: "a"}}, api.ErrName},
		{[]api.Event{{Kind: 3, Platform: "9"}}, api.ErrName},
		{[]api.Event{{Kind: 3, Platform: "a", Number: 1}}, api.ErrName},
		{[]api.Event{{Kind: 6}}, api.ErrName},
		{[]api.Event{light(1, "a", 1), grave(1, "a", 1)}, api.ErrExists},
		{[]api.Event{light(1, "a", 1), light(1, "b", 1), light(1, "a", 2), light(9, "a", 1)}, api.ErrExists},
		{[]api.Event{light(1, "a", 1), repaired(1, "a", 1), grave(1, "a", 1), repaired(4, "a", 1), light(4, "a", 1)}, api.OK},
		{[]api.Event{light(1, "a", 1), repaired(1, "a", 1), repaired(1, "a", 1)}, api.ErrMissing},
		{[]api.Event{light(1, "a", 1), repaired(1, "b", 1)}, api.ErrMissing},
		{[]api.Event{light(1, "a", 1), repaired(1, "a", 2)}, api.ErrMissing},
		{[]api.Event{repaired(1, "a", 0)}, api.ErrMissing},
		{[]api.Event{design(1, "a", 1), repaired(1, "a", 1)}, api.ErrMissing},
		{[]api.Event{design(1, "a", 1), design(1, "a", 1), light(1, "a", 1)}, api.OK},
	} {
		wantError(t, "CheckRecord", record.CheckRecord(x.l), x.right)
		wantError(t, "the chapter's error", recordError(x.l), x.right)
	}
}

// P9.1: which fields are named for which kind.
func TestCheckRecordFields(t *testing.T) {
	for kind := range 7 {
		for fields := range 8 {
			x := api.Event{Day: 5, Kind: kind, Platform: "a", Number: fields & 1, Passed: fields&2 > 0, Grave: fields&4 > 0}
			l := []api.Event{x}
			if kind == 3 {
				l[0].Platform = ""
			}
			if kind == 5 {
				l = []api.Event{light(5, "a", x.Number), x}
			}
			right := api.OK
			for i, letter := range []string{"N", "P", "G"} {
				if fields>>i&1 == 1 && !strings.Contains(namedFor(kind), letter) {
					right = api.ErrForm
				}
			}
			wantError(t, "CheckRecord", record.CheckRecord(l), right)
		}
	}
}

// P9.1: records with something wrong anywhere.
func TestCheckRecordByTheChapter(t *testing.T) {
	d := dice()
	errors := count{}
	for range 20000 {
		l := someRecord(d, 30)
		for range d.Intn(3) {
			if len(l) > 0 {
				i := d.Intn(len(l))
				l[i] = spoiled(d, l[i])
			}
		}
		right := recordError(l)
		wantError(t, "CheckRecord", record.CheckRecord(l), right)
		errors[right]++
	}
	errors.enough(t, 100, api.OK, api.ErrRange, api.ErrOrder, api.ErrName, api.ErrForm, api.ErrExists, api.ErrMissing)
}

// P9.1: events at the end of records.
func TestAdd(t *testing.T) {
	list := append(recordFaults(), one(api.ErrLarge, func(x *input) { x.events = append(x.events, storms(391, 7)...) }))
	inOrder(t, "Add", append(list, eventFaults(7, func(x *input) *api.Event { return &x.event })...)...)
	l, e := record.Add(nil, storm(3))
	want(t, "Add to nothing", l, e, storms(1, 3), api.OK)
	l, e = record.Add(storms(399, 3), storm(3))
	want(t, "Add", l, e, storms(400, 3), api.OK)
	d := dice()
	errors := count{}
	for range 10000 {
		l := someRecord(d, 20)
		day := 0
		if len(l) > 0 {
			day = l[len(l)-1].Day
		}
		x := spoiled(d, someEvent(d, 3, day, 3))
		right := append(slices.Clone(l), x)
		f := recordError(right)
		if f != api.OK {
			right = nil
		}
		got, e := record.Add(l, x)
		want(t, "Add", got, e, right, f)
		errors[f]++
	}
	errors.enough(t, 100, api.OK, api.ErrRange, api.ErrOrder, api.ErrName, api.ErrForm, api.ErrExists, api.ErrMissing)
}

// P9.1: the order of the errors of corrections.
func TestCorrectErrors(t *testing.T) {
	list := append(recordFaults(), beyond(api.ErrMissing, 0, 8, func(x *input) *int { return &x.at }))
	inOrder(t, "Correct", append(list, eventFaults(6, func(x *input) *api.Event { return &x.event })...)...)
	l, e := record.Correct(nil, 0, storm(3))
	want(t, "Correct of nothing", l, e, nil, api.ErrMissing)
	// A record with an error has this first, also where the correction would mend it.
	l, e = record.Correct([]api.Event{storm(3), storm(2)}, 1, storm(3))
	want(t, "Correct of what is no record", l, e, nil, api.ErrOrder)
}

// P9.1: events in the place of others, which may make later ones wrong.
func TestCorrect(t *testing.T) {
	l := []api.Event{light(1, "a", 1), storm(2), repaired(3, "a", 1), light(4, "a", 1)}
	for _, x := range []struct {
		at    int
		event api.Event
		right api.Errno
	}{
		{0, grave(0, "a", 1), api.OK},
		{0, light(1, "a", 2), api.ErrMissing},
		{0, light(1, "b", 1), api.ErrMissing},
		{0, light(3, "a", 1), api.ErrOrder},
		{1, light(2, "a", 1), api.ErrExists},
		{1, repaired(2, "a", 1), api.ErrMissing},
		{1, storm(3), api.OK},
		{1, storm(4), api.ErrOrder},
		{1, storm(0), api.ErrOrder},
		{2, storm(3), api.ErrExists},
		{3, alteration(20000, "abc"), api.OK},
		{3, alteration(20001, "abc"), api.ErrRange},
	} {
		right := slices.Clone(l)
		right[x.at] = x.event
		if x.right != api.OK {
			right = nil
		}
		got, e := record.Correct(l, x.at, x.event)
		want(t, "Correct", got, e, right, x.right)
	}
	d := dice()
	errors := count{}
	for range 10000 {
		l := append(someRecord(d, 20), storm(20000))
		at := d.Intn(len(l))
		right := slices.Clone(l)
		right[at] = spoiled(d, l[at])
		x, f := right[at], recordError(right)
		if f != api.OK {
			right = nil
		}
		got, e := record.Correct(l, at, x)
		want(t, "Correct", got, e, right, f)
		errors[f]++
	}
	errors.enough(t, 50, api.OK, api.ErrRange, api.ErrOrder, api.ErrName, api.ErrForm, api.ErrExists, api.ErrMissing)
}

// P9.1: platforms by their bytes, each once, also those that have an event of any kind only.
func TestPlatforms(t *testing.T) {
	l := []api.Event{
		storm(1), design(1, "b", 1), handover(1, "a", false), weekly(1, "ab", true), light(2, "B", 1), repaired(2, "B", 1),
		grave(3, "a0", 1), storm(4), alteration(5, "a-"), alteration(5, "b"), weekly(6, "Ab", false),
	}
	got, e := record.Platforms(l)
	want(t, "Platforms", got, e, []string{"Ab", "B", "a", "a-", "a0", "ab", "b"}, api.OK)
	got, e = record.Platforms(storms(3, 1))
	want(t, "Platforms of storms", got, e, nil, api.OK)
	got, e = record.Platforms(nil)
	want(t, "Platforms of nothing", got, e, nil, api.OK)
	d := dice()
	for range 1000 {
		l := someRecord(d, 20)
		got, e := record.Platforms(l)
		want(t, "Platforms", got, e, platformsIn(l), api.OK)
	}
}

// platformsIn is the platforms of a record, ascending.
func platformsIn(l []api.Event) []string {
	out := []string{}
	names := platformNames()
	slices.Sort(names)
	for _, name := range names {
		if slices.ContainsFunc(l, func(x api.Event) bool { return x.Platform == name }) {
			out = append(out, name)
		}
	}
	return out
}
