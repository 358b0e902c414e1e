package office_test

import (
	"math"
	"math/rand"
	"slices"
	"strconv"
	"testing"

	"putlog/api"
	"putlog/office"
	"putlog/record"
)

// P10.2: the texts of entries.
func TestFormats(t *testing.T) {
	for _, c := range []struct{ got, right string }{
		// The chapter's.
		{office.FormatEvent(api.Event{Day: 4, Kind: api.EventStorm}), "event 4 3 - 0 0 0"},
		{office.FormatMove(api.Move{Day: 1, Part: "std", Count: 10}), "move 1 0 std 10"},
		{office.FormatPlace(true, api.Place{Kind: api.KindBase}), "add 9 0 0 0 0 0 0"},
		// All fields, and values that no entry may have.
		{office.FormatEvent(api.Event{Day: 1, Kind: 2, Platform: "p-3", Number: 4, Passed: true}), "event 1 2 p-3 4 1 0"},
		{office.FormatEvent(api.Event{Day: 1, Kind: 2, Platform: "-", Number: 4, Grave: true}), "event 1 2 - 4 0 1"},
		{office.FormatEvent(api.Event{Day: -1, Kind: math.MinInt, Platform: " a\n", Number: math.MaxInt, Passed: true, Grave: true}), "event -1 -9223372036854775808  a\n 9223372036854775807 1 1"},
		{office.FormatMove(api.Move{Day: -1, Kind: 2, Part: "", Count: math.MinInt}), "move -1 2  -9223372036854775808"},
		{office.FormatMove(api.Move{Day: 3, Kind: 1, Part: "-", Count: 0}), "move 3 1 - 0"},
		{office.FormatPlace(true, api.Place{Kind: 1, From: api.Node{X: 2, Y: 3, Z: 4}, To: api.Node{X: 5, Y: 6, Z: 7}}), "add 1 2 3 4 5 6 7"},
		{office.FormatPlace(false, api.Place{Kind: -1, From: api.Node{X: -2, Y: -3, Z: math.MaxInt}, To: api.Node{X: 5, Y: math.MinInt, Z: 12345678}}), "remove -1 -2 -3 9223372036854775807 5 -9223372036854775808 12345678"},
	} {
		want(t, "the text of an entry", c.got, api.OK, c.right, api.OK)
	}
}

// builtState is a state with a scaffold, a platform "a" and moves.
func builtState(t *testing.T) api.State {
	t.Helper()
	s, n, e := office.Replay(theJob(), slices.Concat(theDeck(), theMoves(), []string{"event 1 0 a 7 0 0", "event 2 1 a 0 1 0", "event 2 0 b 8 0 0"}))
	want(t, "Replay", n, e, 16, api.OK)
	return s
}

// P10.2: what has one of the forms, and what has none.
func TestForms(t *testing.T) {
	s := builtState(t)
	for _, entry := range []string{
		"event 2 3 - 0 0 0", "event 20000 4 a 9999 0 1", "event 7 2 a-b 0 1 0",
		"move 25 0 std 1", "move 20000 0 board 100000", "move 25 2 std 5",
		"add 8 0 0 2000 0 0 2000", "add 0 -5 0 -1000000 -5 0 1000000", "remove 6 0 0 2000 2000 700 2000",
	} {
		_, e := office.Next(theJob(), s, entry)
		wantError(t, "Next of "+entry, e, api.OK)
	}
	for _, entry := range []string{
		"", " ", "\n", "event", "move", "add", "remove", "events 2 3 - 0 0 0", "Event 2 3 - 0 0 0", "correct 0 event 2 3 - 0 0 0",
		"event 2 3 - 0 0", "event 2 3 - 0 0 0 0", "event 2 3  0 0 0", "event 2 3 0 0 0", "event  2 3 - 0 0 0", " event 2 3 - 0 0 0", "event 2 3 - 0 0 0 ", "event 2 3 - 0 0 0\n", "event\t2 3 - 0 0 0",
		"event 02 3 - 0 0 0", "event +2 3 - 0 0 0", "event 2 -0 - 0 0 0", "event 2 3 - 00 0 0", "event 12345678 3 - 0 0 0", "event 2 -12345678 - 0 0 0", "event 2 3 - 12345678 0 0",
		"event 2 3 - 0 2 0", "event 2 3 - 0 0 2", "event 2 3 - 0 00 0", "event 2 3 - 0 -1 0", "event 2 3 - 0 true 0", "event 2 3 - 0 0 -", "event a 3 - 0 0 0", "event 2 a - 0 0 0", "event 2 3 - a 0 0", "event 2 1 a\nb 0 0 0",
		"move 25 0 std", "move 25 0 std 1 0", "move 25 0  1", "move 25 0 std 1.5", "move 25 0 std 01", "move 25 0 std 10000000", "move 10000000 0 std 1", "move 25 x std 1", "move 25 0 std\n 1",
		"add 8 0 0 2000 0 0", "add 8 0 0 2000 0 0 2000 0", "add 8 0 0 2000 0 0  2000", "add 8 0 0 2000 0 0 x", "add x 0 0 2000 0 0 2000", "add 8 0 0 2000 0 0 10000000", "add 8 -00 0 2000 0 0 2000", "remove 8 0 0 2000 0 0 2000\n",
	} {
		got, e := office.Next(theJob(), s, entry)
		want(t, "Next of "+strconv.Quote(entry), got, e, api.State{}, api.ErrSyntax)
	}
}

// P10.2: the errors of entries with right forms, and which comes first.
func TestEntryErrors(t *testing.T) {
	s := builtState(t)
	for entry, is := range map[string]api.Errno{
		"event 20001 3 - 0 0 0": api.ErrRange, "event -1 3 - 0 0 0": api.ErrRange, "event 2 7 a 0 0 0": api.ErrRange, "event 2 0 a 10000 0 0": api.ErrRange, "event 9999999 -9999999 - 0 0 0": api.ErrRange,
		"event 1 3 - 0 0 0": api.ErrOrder, "event 2 3 a 0 0 0": api.ErrName, "event 2 1 - 0 0 0": api.ErrName, "event 2 1 9 0 0 0": api.ErrName, "event 2 1 a\t 0 0 0": api.ErrName,
		"event 2 3 - 1 0 0": api.ErrForm, "event 2 3 - 0 1 0": api.ErrForm, "event 2 1 a 0 1 1": api.ErrForm, "event 2 5 a 0 0 0": api.ErrMissing,
		"move 24 0 std 1": api.ErrOrder, "move 25 0 tube 1": api.ErrMissing, "move 25 0 - 1": api.ErrMissing, "move 25 1 std 6": api.ErrStock, "move 25 3 std 1": api.ErrRange, "move 25 0 std 0": api.ErrRange, "move 25 0 std -1": api.ErrRange,
		"add 9 0 0 0 0 0 0": api.ErrExists, "remove 8 0 0 0 0 0 0": api.ErrMissing, "add 10 0 0 0 0 0 0": api.ErrRange, "add 0 0 0 0 0 0 0": api.ErrForm, "add 9 1000001 0 0 1000001 0 0": api.ErrRange, "add -1 0 0 0 0 0 0": api.ErrRange,
	} {
		got, e := office.Next(theJob(), s, entry)
		want(t, "Next of "+strconv.Quote(entry), got, e, api.State{}, is)
	}
	// A state that no entries have made.
	wrong := api.State{Record: []api.Event{{Day: -1, Kind: 6, Platform: "a"}}}
	for _, entry := range []string{"event 1 3 - 0 0 0", "add 9 0 0 0 0 0 0"} {
		got, e := office.Next(theJob(), wrong, entry)
		want(t, "Next of "+entry, got, e, api.State{}, api.ErrRange)
	}
	// A design while a member has a free end: the error of the record comes first.
	s, e := office.Next(theJob(), s, "remove 9 0 0 0 0 0 0")
	wantError(t, "Next", e, api.OK)
	for entry, is := range map[string]api.Errno{
		"event 2 0 c 1 0 0": api.ErrFree, "event 1 0 c 1 0 0": api.ErrOrder, "event 2 0 c 1 0 1": api.ErrForm, "event 2 1 a 0 1 0": api.OK, "event 2 6 a 0 0 0": api.OK, "move 25 0 std 1": api.OK,
	} {
		_, e := office.Next(theJob(), s, entry)
		wantError(t, "Next of "+entry, e, is)
	}
}

// P10.2: the chapter's examples.
func TestStates(t *testing.T) {
	l := []string{"add 9 0 0 0 0 0 0", "add 0 0 0 0 0 0 2000", "event 1 0 a 7 0 0", "event 2 1 a 0 1 0"}
	s, n, e := office.Replay(theJob(), l)
	right := api.State{
		Record:   []api.Event{{Day: 1, Platform: "a", Number: 7}, {Day: 2, Kind: 1, Platform: "a", Passed: true}},
		Scaffold: api.Scaffold{Nodes: []api.Node{{}, {Z: 2000}}, Members: []api.Member{{Kind: 0, A: 0, B: 1}, {Kind: 9}}},
	}
	want(t, "Replay", s, e, right, api.OK)
	want(t, "the number of entries", n, e, 4, api.OK)
	tag, e := record.Tag(s.Record, "a", 2)
	want(t, "Tag", tag, e, 2, api.OK)
	s, e = office.Next(theJob(), s, "add 8 0 0 2000 0 0 2000")
	right.Record = append(right.Record, api.Event{Day: 2, Kind: 6, Platform: "a"})
	right.Scaffold.Members = []api.Member{{Kind: 0, A: 0, B: 1}, {Kind: 8, A: 1, B: 1}, {Kind: 9}}
	want(t, "Next", s, e, right, api.OK)
	tag, e = record.Tag(s.Record, "a", 2)
	want(t, "Tag behind a tie", tag, e, 0, api.OK)

	s, n, e = office.Replay(theJob(), []string{"add 0 0 0 0 0 0 2000", "event 1 0 a 7 0 0"})
	want(t, "Replay", s, e, api.State{Scaffold: api.Scaffold{Nodes: []api.Node{{}, {Z: 2000}}, Members: []api.Member{{Kind: 0, A: 0, B: 1}}}}, api.ErrFree)
	want(t, "the number of entries", n, e, 1, api.ErrFree)
}

// P10.2: alterations of all platforms, ascending, on the day of the last event, of whichever platform.
func TestAlterations(t *testing.T) {
	s, _, e := office.Replay(theJob(), []string{"event 1 2 b 0 0 0", "event 2 6 a 0 0 0", "event 3 4 B 1 0 1", "event 3 5 B 1 0 0", "event 9 3 - 0 0 0", "move 30 0 std 1", "add 9 0 0 0 0 0 0"})
	wantError(t, "Replay", e, api.OK)
	right := []api.Event{{Day: 9, Kind: 6, Platform: "B"}, {Day: 9, Kind: 6, Platform: "a"}, {Day: 9, Kind: 6, Platform: "b"}}
	want(t, "the alterations", s.Record[5:], e, right, api.OK)
	s, e = office.Next(theJob(), s, "remove 9 0 0 0 0 0 0")
	want(t, "the alterations", s.Record[5:], e, slices.Repeat(right, 2), api.OK)
	// Storms are of no platform.
	s, _, e = office.Replay(theJob(), []string{"event 9 3 - 0 0 0", "add 9 0 0 0 0 0 0"})
	want(t, "no alterations", s.Record, e, []api.Event{{Day: 9, Kind: 3}}, api.OK)
	// A record has at most 400 events; the error of the scaffold comes first.
	l := []string{}
	for i := range 199 {
		l = append(l, "event 1 6 p"+strconv.Itoa(i)+" 0 0 0")
	}
	l = append(l, "event 1 3 - 0 0 0", "event 1 3 - 0 0 0", "add 9 0 0 0 0 0 0")
	s, n, e := office.Replay(theJob(), l)
	want(t, "Replay", n, e, len(l), api.OK)
	want(t, "the events", len(s.Record), e, 400, api.OK)
	got, e := office.Next(theJob(), s, "remove 9 0 0 0 0 0 0")
	want(t, "Next with too many alterations", got, e, api.State{}, api.ErrLarge)
	_, e = office.Next(theJob(), s, "add 9 0 0 0 0 0 0")
	wantError(t, "Next of what is there", e, api.ErrExists)
	_, e = office.Next(theJob(), s, "event 1 3 - 0 0 0")
	wantError(t, "Next of an event too many", e, api.ErrLarge)
	_, e = office.Next(theJob(), s, "move 1 0 std 1")
	wantError(t, "Next of a move", e, api.OK)
}

// P10.2: Replay.
func TestReplay(t *testing.T) {
	s, n, e := office.Replay(theJob(), nil)
	want(t, "Replay of nothing", s, e, api.State{}, api.OK)
	want(t, "the number of entries", n, e, 0, api.OK)
	for at := range theLines()[:13] {
		for wrong, is := range map[string]api.Errno{"x": api.ErrSyntax, "event 1 1 - 0 0 0": api.ErrName, "correct 0 event 1 3 - 0 0 0": api.ErrSyntax} {
			l := append(theLines()[:at:at], wrong, "event 1 3 - 0 0 0")
			right, _, _ := replayOf(theJob(), l)
			s, n, e := office.Replay(theJob(), l)
			want(t, "Replay", s, e, right, is)
			want(t, "the number of entries", n, e, at, is)
		}
	}
	l := slices.Repeat([]string{"event 1 3 - 0 0 0"}, 301)
	s, n, e = office.Replay(theJob(), l[:300])
	want(t, "Replay of 300 entries", n, e, 300, api.OK)
	want(t, "their events", len(s.Record), e, 300, api.OK)
	l[0] = "x"
	s, n, e = office.Replay(theJob(), l)
	want(t, "Replay of 301 entries", s, e, api.State{}, api.ErrLarge)
	want(t, "the number of entries", n, e, 0, api.ErrLarge)
}

// wildEntry is an entry of chances, at times with a fault.
func wildEntry(d *rand.Rand, s api.State) string {
	entry := someEntry(d, s)
	if d.Intn(6) == 0 {
		entry = spoiled(d, entry, " \n-0129ax")
	}
	return entry
}

// P10.2: entries of chances, one behind the other.
func TestEntriesByTheChapter(t *testing.T) {
	d := dice()
	results := map[api.Errno]int{}
	for range 100 {
		s, entries := api.State{}, []string{}
		for range 60 {
			entry := wildEntry(d, s)
			right, f := nextOf(theJob(), s, entry)
			got, e := office.Next(theJob(), s, entry)
			want(t, "Next of "+strconv.Quote(entry), got, e, right, f)
			results[f]++
			if f == api.OK {
				s, entries = right, append(entries, entry)
			}
		}
		got, n, e := office.Replay(theJob(), entries)
		want(t, "Replay", got, e, s, api.OK)
		want(t, "the number of entries", n, e, len(entries), api.OK)
	}
	for _, e := range []api.Errno{api.OK, api.ErrSyntax, api.ErrRange, api.ErrForm, api.ErrName, api.ErrExists, api.ErrMissing, api.ErrOrder, api.ErrFree, api.ErrStock} {
		if results[e] < 5 {
			t.Errorf("only %d entries have error %d", results[e], e)
		}
	}
}

// P10.2: the text of an event, a move or a place is an entry that adds it.
func TestFormatsAreEntries(t *testing.T) {
	d := dice()
	for range 200 {
		x := api.Event{Day: d.Intn(20001), Kind: 4, Platform: "a-" + strconv.Itoa(d.Intn(99)), Number: d.Intn(10000), Grave: d.Intn(2) == 0}
		m := api.Move{Day: d.Intn(20001), Part: "board", Count: 1 + d.Intn(100000)}
		foot := api.Node{X: d.Intn(2000001) - 1000000, Y: d.Intn(2000001) - 1000000, Z: -d.Intn(1000000) - 1}
		p := api.Place{Kind: 3, From: foot, To: api.Node{X: -foot.X - 1, Y: -foot.Y, Z: -foot.Z}}
		p.To.X = max(p.To.X, -1000000)
		s, n, e := office.Replay(theJob(), []string{office.FormatEvent(x), office.FormatMove(m), office.FormatPlace(true, p)})
		want(t, "Replay", n, e, 3, api.OK)
		want(t, "the event", s.Record[0], e, x, api.OK)
		want(t, "the move", s.Moves[0], e, m, api.OK)
		member := s.Scaffold.Members[0]
		want(t, "the place", api.Place{Kind: member.Kind, From: s.Scaffold.Nodes[member.A], To: s.Scaffold.Nodes[member.B]}, e, p, api.OK)
		s, e = office.Next(theJob(), api.State{Scaffold: s.Scaffold}, office.FormatPlace(false, p))
		want(t, "the state without it", s, e, api.State{}, api.OK)
	}
}
