package office_test

import (
	"slices"
	"strconv"
	"strings"
	"testing"

	"putlog/api"
	"putlog/office"
)

// newJournal is the journal of lines, by the chapter.
func newJournal(lines ...string) string {
	out := ""
	for k, line := range lines {
		sum := (k + 1) * 31
		for i, c := range []byte(line) {
			sum += int(c) * (1 + i%13)
		}
		out += line + " #" + strconv.Itoa(sum%9973) + "\n"
	}
	return out
}

// theLines is lines of a log with corrections.
func theLines() []string {
	return slices.Concat(theDeck(), theMoves(), []string{
		"event 1 0 a 7 0 0", "event 2 1 a 0 1 0", "event 3 4 a 3 0 0", "correct 10 move 2 0 std 12", "correct 15 event 3 4 a 3 0 1",
		"correct 15 event 3 4 a 3 0 0", "event 4 3 - 0 0 0", "add 8 0 0 2000 0 0 2000",
	})
}

// P10.6: Journal.
func TestJournal(t *testing.T) {
	var none *office.Office
	want(t, "Journal of nil", none.Journal(), api.OK, "", api.OK)
	want(t, "Journal of an empty log", newOffice(t).Journal(), api.OK, "", api.OK)
	// By hand: 31, 101 times 1, 118 times 2 and so on, and the last four bytes times 1 to 4.
	want(t, "Journal", newOffice(t, "event 0 3 - 0 0 0").Journal(), api.OK, "event 0 3 - 0 0 0 #5173\n", api.OK)
	o := newOffice(t)
	for i, l := range theLines() {
		wantError(t, "Enter", o.Enter(l), api.OK)
		want(t, "Journal", o.Journal(), api.OK, newJournal(theLines()[:i+1]...), api.OK)
		wantError(t, "Enter of a wrong line", o.Enter("x"), api.ErrSyntax)
	}
	// The chapter's example.
	if got := newJournal("x"); got != "x #151\n" {
		t.Errorf("the journal of x: %q", got)
	}
}

// wantOffice compares an office with what its lines make of it.
func wantOffice(t *testing.T, o *office.Office, lines []string) {
	t.Helper()
	right := newOffice(t, lines...)
	want(t, "Entries", o.Entries(), api.OK, right.Entries(), api.OK)
	want(t, "State", o.State(), api.OK, right.State(), api.OK)
	want(t, "Journal", o.Journal(), api.OK, newJournal(lines...), api.OK)
}

// P10.6: Recover of whole journals, and of such as are cut off behind any byte.
func TestRecover(t *testing.T) {
	whole := newJournal(theLines()...)
	for size := range len(whole) + 1 {
		lines := theLines()[:strings.Count(whole[:size], "\n")]
		o, n, e := office.Recover(theJob(), whole[:size])
		want(t, "Recover", n, e, len(newJournal(lines...)), api.OK)
		if size%7 == 0 || size == len(whole) {
			wantOffice(t, o, lines)
		}
	}
	o, _, _ := office.Recover(theJob(), whole)
	wantError(t, "Enter behind Recover", o.Enter("event 5 3 - 0 0 0"), api.OK)
	wantOffice(t, o, append(theLines(), "event 5 3 - 0 0 0"))
}

// P10.6: Recover of journals in which something is wrong.
func TestRecoverOfWrongLines(t *testing.T) {
	good := newJournal("event 0 3 - 0 0 0", "event 1 3 - 0 0 0")
	for _, c := range []struct {
		journal string
		lines   int
	}{
		{good, 2},
		{good + newJournal("", "", "event 2 3 - 0 0 0")[len(newJournal("", "")):], 3},
		{good + newJournal("event 2 3 - 0 0 0"), 2}, // the number is that of another line
		{good + "\n", 2}, {good + "event 2 3 - 0 0 0\n", 2}, {good + " #93\n", 2}, {"\n" + good, 0}, {"#62\n", 0},
		{strings.Replace(good, " #", "#", 1), 0}, {strings.Replace(good, " #", " # ", 1), 0}, {strings.Replace(good, " #", "  #", 1), 0},
		{strings.Replace(good, " #", " #0", 1), 0}, {strings.Replace(good, " #", " #+", 1), 0}, {strings.Replace(good, "\n", " \n", 1), 0},
		{strings.Replace(good, "\n", "\r\n", 1), 0}, {strings.Replace(good, "event 1", "event 2", 1), 1},
		{newJournal("event 0 3 - 0 0 0", "event 1 3 a 0 0 0"), 1},                     // refused
		{newJournal("event 0 3 - 0 0 0", "correct 1 event 1 3 - 0 0 0"), 1},           // refused
		{newJournal("event 0 3 - 0 0 0", "event 1 3 -  0 0 0"), 1},                    // no entry
		{newJournal("event 0 3 - 0 0 0", "event 1 3 - 0 0 0 #1"), 1},                  // no entry
		{newJournal("event 0 3 - 0 0 0", "x", "event 1 3 - 0 0 0"), 1},                // not behind it
		{newJournal("event 1 3 - 0 0 0", "correct 0 event 0 3 - 0 0 0", "#"), 2},      // a correction
		{strings.TrimSuffix(newJournal("event 0 3 - 0 0 0", "x")[:24], "\n") + "", 0}, // without its line feed
	} {
		lines := []string{}
		for l := range strings.Lines(c.journal) {
			if len(lines) == c.lines {
				break
			}
			lines = append(lines, l[:strings.LastIndex(l, " #")])
		}
		o, n, e := office.Recover(theJob(), c.journal)
		want(t, "Recover of "+strconv.Quote(c.journal), n, e, len(newJournal(lines...)), api.OK)
		wantOffice(t, o, lines)
	}
}

// P10.6: each wrong byte is found.
func TestRecoverOfWrongBytes(t *testing.T) {
	d := dice()
	whole := newJournal(theLines()...)
	for at := range len(whole) {
		b := []byte(whole)
		b[at] ^= byte(1 + d.Intn(255))
		o, n, e := office.Recover(theJob(), string(b))
		begin := strings.LastIndex(whole[:at], "\n") + 1
		want(t, "Recover of "+strconv.Quote(string(b)), n, e, begin, api.OK)
		if at%11 == 0 {
			wantOffice(t, o, theLines()[:strings.Count(whole[:at], "\n")])
		}
	}
}

// P10.6: a journal with more lines than a log may have.
func TestRecoverOfManyLines(t *testing.T) {
	lines := slices.Repeat([]string{"event 7 3 - 0 0 0"}, 301)
	o, n, e := office.Recover(theJob(), newJournal(lines...))
	want(t, "Recover", n, e, len(newJournal(lines[:300]...)), api.OK)
	want(t, "the entries", len(o.Entries()), e, 300, api.OK)
	wantError(t, "Enter", o.Enter("event 7 3 - 0 0 0"), api.ErrLarge)
}
