package office_test

import (
	"math/rand"
	"slices"
	"strconv"
	"strings"
	"testing"

	"putlog/api"
	"putlog/office"
)

// A logbook is the lines of a log, by the chapter.
type logbook struct{ lines []string }

// behind is the entries behind the lines.
func (l logbook) behind() []string {
	out := []string{}
	for _, line := range l.lines {
		at, entry := correctedOf(line)
		if at < 0 {
			out = append(out, entry)
			continue
		}
		out[at] = entry
	}
	return out
}

// correctedOf is the number that a correction has, or -1, and the entry of a line.
func correctedOf(line string) (int, string) {
	words := correctionForm.FindStringSubmatch(line)
	if words == nil {
		return -1, line
	}
	return numbersOf(words[1])[0], line[len(words[0]):]
}

// errorOf is the error of entering a line, by the chapter.
func (l logbook) errorOf(line string) api.Errno {
	if len(l.lines) >= 300 {
		return api.ErrLarge
	}
	at, entry := correctedOf(line)
	isCorrection := correctionForm.MatchString(line)
	if form, _ := partsOf(entry); form < 0 {
		return api.ErrSyntax
	}
	if isCorrection && (at < 0 || at >= len(l.behind())) {
		return api.ErrMissing
	}
	next := logbook{append(slices.Clone(l.lines), line)}
	_, _, e := replayOf(theJob(), next.behind())
	return e
}

// P10.5: a new office.
func TestNew(t *testing.T) {
	o, e := office.New(theJob())
	wantError(t, "New", e, api.OK)
	want(t, "Entries", o.Entries(), e, []string{}, api.OK)
	want(t, "State", o.State(), e, api.State{}, api.OK)
	var none *office.Office
	wantError(t, "Enter", none.Enter("event 1 3 - 0 0 0"), api.ErrNil)
	wantError(t, "Enter", none.Enter("x"), api.ErrNil)
	want(t, "Entries", none.Entries(), e, []string{}, api.OK)
	want(t, "State", none.State(), e, api.State{}, api.OK)
}

// P10.5: lines and corrections.
func TestEnter(t *testing.T) {
	o := newOffice(t)
	for _, c := range []struct {
		line string
		is   api.Errno
	}{
		{"correct 0 add 9 0 0 0 0 0 0", api.ErrMissing},
		{"add 0 0 0 0 0 0 2000", api.OK},
		{"event 1 0 a 7 0 0", api.ErrFree},
		{"add 9 0 0 0 0 0 0", api.OK},
		{"event 1 0 a 7 0 0", api.OK},
		{"event 2 1 a 0 1 0", api.OK},
		{"correct 1 add 8 0 0 0 0 0 0", api.ErrFree}, // the design behind it
		{"correct 0 add 0 0 0 0 0 0 1500", api.OK},
		{"correct 0 add 0 0 0 0 0 0 0", api.ErrForm},
		{"correct 3 event 0 1 a 0 1 0", api.ErrOrder},
		{"correct 2 event 3 0 a 7 0 0", api.ErrOrder}, // of the entry behind it
		{"correct 2 event 2 0 a 8 0 0", api.OK},
		{"correct 2 event 1 0 a 9 0 0", api.OK}, // once more
		{"correct 4 event 1 3 - 0 0 0", api.ErrMissing}, {"correct -1 event 1 3 - 0 0 0", api.ErrMissing}, {"correct 9999999 event 1 3 - 0 0 0", api.ErrMissing}, {"correct -9999999 event 1 3 - 0 0 0", api.ErrMissing},
		{"correct 10000000 event 1 3 - 0 0 0", api.ErrSyntax}, {"correct 4 event 1 3 - 0 0", api.ErrSyntax}, {"correct 0 correct 0 event 1 3 - 0 0 0", api.ErrSyntax}, {"correct 0", api.ErrSyntax}, {"correct", api.ErrSyntax}, {"correct ", api.ErrSyntax}, {"correct 0 ", api.ErrSyntax},
		{"correct  0 event 1 3 - 0 0 0", api.ErrSyntax}, {"correct 0  event 1 3 - 0 0 0", api.ErrSyntax}, {"correct 00 event 1 3 - 0 0 0", api.ErrSyntax}, {"correct -0 event 1 3 - 0 0 0", api.ErrSyntax}, {"correct +0 event 1 3 - 0 0 0", api.ErrSyntax}, {"correct x event 1 3 - 0 0 0", api.ErrSyntax},
		{"Correct 0 event 1 3 - 0 0 0", api.ErrSyntax}, {"correct 0 event 1 3 - 0 0 0\n", api.ErrSyntax}, {" correct 0 event 1 3 - 0 0 0", api.ErrSyntax}, {"correct event 1 3 - 0 0 0", api.ErrSyntax}, {"", api.ErrSyntax}, {"event", api.ErrSyntax},
		{"correct 3 add 8 0 0 1500 0 0 1500", api.OK}, // an event becomes a member
		{"correct 3 move 1 1 std 1", api.ErrStock},
		{"move 1 0 std 10", api.OK}, {"move 2 1 std 10", api.OK}, {"correct 4 move 1 0 std 9", api.ErrStock}, {"correct 4 move 1 0 board 10", api.ErrStock}, {"correct 5 move 2 1 std 9", api.OK}, {"correct 4 move 1 0 std 9", api.OK},
	} {
		before := []any{o.Entries(), o.State(), o.Journal()}
		wantError(t, "Enter of "+strconv.Quote(c.line), o.Enter(c.line), c.is)
		after := []any{o.Entries(), o.State(), o.Journal()}
		if c.is != api.OK && !same(before, after) {
			t.Errorf("Enter of %q with error %d changes something", c.line, c.is)
		}
	}
	entries := []string{"add 0 0 0 0 0 0 1500", "add 9 0 0 0 0 0 0", "event 1 0 a 9 0 0", "add 8 0 0 1500 0 0 1500", "move 1 0 std 9", "move 2 1 std 9"}
	want(t, "Entries", o.Entries(), api.OK, entries, api.OK)
	right, _, e := replayOf(theJob(), entries)
	want(t, "State", o.State(), api.OK, right, e)
}

// P10.5: a log has at most 300 lines, corrections among them.
func TestManyLines(t *testing.T) {
	o := newOffice(t, "event 1 3 - 0 0 0")
	for i := range 299 {
		line := "event 1 3 - 0 0 0"
		if i%2 == 0 {
			line = "correct 0 event " + strconv.Itoa(i%4/2) + " 3 - 0 0 0"
		}
		wantError(t, "Enter of "+line, o.Enter(line), api.OK)
	}
	want(t, "the entries", len(o.Entries()), api.OK, 150, api.OK)
	for _, line := range []string{"event 1 3 - 0 0 0", "correct 0 event 1 3 - 0 0 0", "correct 900 event 1 3 - 0 0 0", "x", ""} {
		wantError(t, "Enter of line 301", o.Enter(line), api.ErrLarge)
	}
	want(t, "the lines", strings.Count(o.Journal(), "\n"), api.OK, 300, api.OK)
}

// someLine is a line of chances that may fit an office.
func someLine(d *rand.Rand, o *office.Office) string {
	line := wildEntry(d, o.State())
	if d.Intn(3) == 0 {
		line = "correct " + strconv.Itoa(d.Intn(len(o.Entries())+2)-1) + " " + someEntry(d, api.State{})
		if n := len(o.Entries()); d.Intn(2) == 0 && n > 0 { // a small change of an entry that is there
			at := d.Intn(n)
			line = "correct " + strconv.Itoa(at) + " " + spoiled(d, o.Entries()[at], "0129abc")
		}
	}
	if d.Intn(12) == 0 {
		line = spoiled(d, line, " \n-0129ax")
	}
	return line
}

// P10.5, P10.6 and P10.9: lines of chances, with what the chapter says behind each of them.
func TestOfficesByTheChapter(t *testing.T) {
	d := dice()
	results := map[api.Errno]int{}
	corrected := 0
	for range 40 {
		o, book := newOffice(t), logbook{}
		for range 80 {
			line := someLine(d, o)
			right := book.errorOf(line)
			wantError(t, "Enter of "+strconv.Quote(line), o.Enter(line), right)
			results[right]++
			if right != api.OK {
				continue
			}
			if correctionForm.MatchString(line) {
				corrected++
			}
			book.lines = append(book.lines, line)
			want(t, "Entries", o.Entries(), api.OK, book.behind(), api.OK)
			s, _, e := replayOf(theJob(), book.behind())
			want(t, "State", o.State(), api.OK, s, e)
			want(t, "Journal", o.Journal(), api.OK, newJournal(book.lines...), api.OK)
		}
	}
	for _, e := range []api.Errno{api.OK, api.ErrSyntax, api.ErrMissing, api.ErrExists, api.ErrOrder, api.ErrForm, api.ErrFree} {
		if results[e] < 20 {
			t.Errorf("only %d lines have error %d", results[e], e)
		}
	}
	if corrected < 100 {
		t.Errorf("only %d corrections are accepted", corrected)
	}
}
