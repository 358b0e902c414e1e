package record_test

import (
	"slices"
	"testing"

	"putlog/api"
	"putlog/record"
)

// historyOf is the tags of a platform on days, gone through day by day.
func historyOf(l []api.Event, platform string, from, to int) []api.Span {
	out := []api.Span{}
	for day := from; day <= to; day++ {
		tag := tagOf(reasonsOf(l, platform, day))
		if day > from && out[len(out)-1].Tag == tag {
			out[len(out)-1].To = day
			continue
		}
		out = append(out, api.Span{From: day, To: day, Tag: tag})
	}
	return out
}

// spans is times; From, To and Tag by turns.
func spans(l ...int) []api.Span {
	out := []api.Span{}
	for i := 0; i < len(l); i += 3 {
		out = append(out, api.Span{From: l[i], To: l[i+1], Tag: l[i+2]})
	}
	return out
}

// P9.3: times with one tag.
func TestHistory(t *testing.T) {
	l := append(theRecord(), light(5, "a", 3), repaired(7, "a", 3), weekly(9, "a", true), storm(12), weekly(12, "a", true), alteration(30, "a"))
	for _, x := range []struct {
		from, to int
		right    []api.Span
	}{
		{0, 20000, spans(0, 1, 0, 2, 4, 2, 5, 6, 1, 7, 19, 2, 20, 20000, 0)},
		{0, 0, spans(0, 0, 0)},
		{1, 2, spans(1, 1, 0, 2, 2, 2)},
		{2, 4, spans(2, 4, 2)},
		{3, 3, spans(3, 3, 2)},
		{4, 5, spans(4, 4, 2, 5, 5, 1)},
		{6, 7, spans(6, 6, 1, 7, 7, 2)},
		{8, 19, spans(8, 19, 2)},
		{19, 20, spans(19, 19, 2, 20, 20, 0)},
		{20, 40, spans(20, 40, 0)},
		{20000, 20000, spans(20000, 20000, 0)},
	} {
		got, e := record.History(l, "a", x.from, x.to)
		want(t, "History", got, e, x.right, api.OK)
		want(t, "the chapter's history", historyOf(l, "a", x.from, x.to), api.OK, x.right, api.OK)
	}
	last := []api.Event{design(19990, "a", 1), handover(19995, "a", true)}
	got, e := record.History(last, "a", 19990, 20000)
	want(t, "History up to the last day", got, e, spans(19990, 19994, 0, 19995, 20000, 2), api.OK)
}

// P9.3: the order of the errors.
func TestDaysErrors(t *testing.T) {
	list := append(recordFaults(), spanFaults()...)
	inOrder(t, "History", append(list, noPlatforms())...)
	within(t, "History", 0, 14, func(x *input) *int { return &x.from })
	within(t, "History", 2, 20000, func(x *input) *int { return &x.to })
	for _, name := range []string{"Due", "Released"} {
		inOrder(t, name, append(recordFaults(), dayFaults(theDay))...)
		within(t, name, 0, 20000, theDay)
	}
}

// P9.3: histories of records of chances.
func TestHistoryByTheChapter(t *testing.T) {
	d := dice()
	longest := 0
	for range 2000 {
		l := someRecord(d, 60)
		for _, platform := range platformsIn(l) {
			from := d.Intn(30)
			to := from + d.Intn(40)
			right := historyOf(l, platform, from, to)
			longest = max(longest, len(right))
			got, e := record.History(l, platform, from, to)
			want(t, "History", got, e, right, api.OK)
		}
	}
	if longest < 4 {
		t.Errorf("no history has more than %d times", longest)
	}
}

// P9.3: what is due, and what is green.
func TestDueAndReleased(t *testing.T) {
	l := []api.Event{
		design(1, "b", 1), handover(1, "b", true), design(1, "a", 1), handover(2, "a", true), light(2, "a", 1),
		design(3, "ab", 1), handover(3, "ab", true), design(3, "B", 1), handover(3, "B", true), grave(3, "B", 1),
		weekly(3, "a0", true), design(4, "a-", 1), handover(4, "a-", true),
	}
	for _, x := range []struct {
		day           int
		due, released []string
	}{
		{0, nil, nil},
		{1, nil, []string{"b"}},
		{2, nil, []string{"b"}},
		{3, nil, []string{"ab", "b"}},
		{4, nil, []string{"a-", "ab", "b"}},
		{8, nil, []string{"a-", "ab", "b"}},
		{9, []string{"b"}, []string{"a-", "ab"}},
		{10, []string{"a", "b"}, []string{"a-", "ab"}},
		{11, []string{"a", "ab", "b"}, []string{"a-"}},
		{12, []string{"a", "a-", "ab", "b"}, nil},
		{20000, []string{"a", "a-", "ab", "b"}, nil},
	} {
		got, e := record.Due(l, x.day)
		want(t, "Due", got, e, x.due, api.OK)
		got, e = record.Released(l, x.day)
		want(t, "Released", got, e, x.released, api.OK)
	}
	for _, f := range []func([]api.Event, int) ([]string, api.Errno){record.Due, record.Released} {
		got, e := f(nil, 0)
		want(t, "Due or Released of nothing", got, e, nil, api.OK)
		got, e = f(storms(4, 4), 4)
		want(t, "Due or Released of storms", got, e, nil, api.OK)
	}
}

// P9.3: what is due, and what is green, in records of chances.
func TestDueAndReleasedByTheChapter(t *testing.T) {
	d := dice()
	lists := [2]int{}
	for range 3000 {
		l := someRecord(d, 60)
		day := d.Intn(40)
		due, released := []string{}, []string{}
		for _, platform := range platformsIn(l) {
			reasons := reasonsOf(l, platform, day)
			but := slices.DeleteFunc(slices.Clone(reasons), func(r int) bool { return r == 2 })
			if len(but) < len(reasons) && tagOf(but) > 0 {
				due = append(due, platform)
			}
			if len(reasons) == 0 {
				released = append(released, platform)
			}
		}
		lists[0] += min(1, len(due))
		lists[1] += min(1, len(released))
		got, e := record.Due(l, day)
		want(t, "Due", got, e, due, api.OK)
		got, e = record.Released(l, day)
		want(t, "Released", got, e, released, api.OK)
	}
	if min(lists[0], lists[1]) < 100 {
		t.Errorf("only so many lists have platforms: %v", lists)
	}
}
