package office_test

import (
	"slices"
	"strconv"
	"strings"
	"testing"

	"putlog/api"
	"putlog/exact"
	"putlog/office"
	"putlog/parts"
	"putlog/record"
)

// newConsole is a console of the job to which lines were entered.
func newConsole(t *testing.T, lines ...string) *office.Console {
	t.Helper()
	c, e := office.NewConsole(theJob())
	wantError(t, "NewConsole", e, api.OK)
	for _, l := range lines {
		wantAnswer(t, c, "enter "+l, "ok")
	}
	return c
}

// wantAnswer compares what a console answers.
func wantAnswer(t *testing.T, c *office.Console, line, right string) {
	t.Helper()
	if got := c.Do(line); got != right {
		t.Errorf("Do(%q): %q, want %q", line, got, right)
	}
}

// P10.8: the answers of a new console.
func TestNewConsole(t *testing.T) {
	c := newConsole(t)
	for line, right := range map[string]string{
		"tag a 1": "error 6", "due 1": "", "released 1": "", "account 1": "0", "value 1 entries": "0", "value 1 1/2": "1/2", "bill": "", "free": "0", "journal": "0",
	} {
		wantAnswer(t, c, line, right)
	}
}

// P10.8: enter.
func TestConsoleEnters(t *testing.T) {
	c := newConsole(t)
	for _, x := range [][2]string{
		{"enter add 0 0 0 0 0 0 2000", "ok"}, {"enter event 1 0 a 7 0 0", "error 14"}, {"enter add 0 0 0 0 0 0 2000", "error 5"}, {"free", "1"}, {"enter add 9 0 0 0 0 0 0", "ok"}, {"free", "0"}, {"enter event 1 0 a 7 0 0", "ok"},
		{"enter correct 1 remove 9 0 0 0 0 0 0", "error 6"}, {"enter correct 2 event 1 0 b 7 0 0", "ok"}, {"enter correct 3 event 1 0 b 7 0 0", "error 6"}, {"enter correct 2 x", "error 7"},
		{"enter ", "error 7"}, {"enter  event 1 3 - 0 0 0", "error 7"}, {"enter event 1 3 - 0 0 0 ", "error 7"}, {"enter enter event 1 3 - 0 0 0", "error 7"}, {"enter event 1 3 - 0 0 0\n", "error 7"}, {"enter", "?"}, {"enter\n", "?"}, {"Enter event 1 3 - 0 0 0", "?"}, {" enter event 1 3 - 0 0 0", "?"}, {"event 1 3 - 0 0 0", "?"},
		{"journal", strconv.Itoa(len(newJournal("add 0 0 0 0 0 0 2000", "add 9 0 0 0 0 0 0", "event 1 0 a 7 0 0", "correct 2 event 1 0 b 7 0 0")))},
	} {
		wantAnswer(t, c, x[0], x[1])
	}
	for range 296 {
		wantAnswer(t, c, "enter event 1 3 - 0 0 0", "ok")
	}
	wantAnswer(t, c, "enter event 1 3 - 0 0 0", "error 8")
}

// P10.8: what a console answers of days.
func TestConsoleDays(t *testing.T) {
	c := newConsole(t, append(theMoves(), "event 1 0 b 1 0 0", "event 1 0 a 7 0 0", "event 2 1 a 0 1 0", "event 2 1 b 0 1 0", "event 3 4 a 3 0 0")...)
	for line, right := range map[string]string{
		"tag a 0": "red", "tag a 1": "red", "tag a 2": "green", "tag a 3": "yellow", "tag a 10": "red", "tag b 3": "green", "tag b 20000": "red", "tag a -1": "error 2", "tag a 20001": "error 2", "tag c 99999": "error 2", "tag c 2": "error 6", "tag  2": "error 6", "tag  -1": "error 2", "tag - 2": "error 6", "tag A 2": "error 6",
		"due 9": "", "due 10": "a, b", "due 20000": "a, b", "due -1": "error 2", "due 20001": "error 2", "due 0": "",
		"released 1": "", "released 2": "a, b", "released 3": "b", "released 9": "b", "released 10": "", "released -99999": "error 2", "released 99999": "error 2",
		"account 0": "0", "account 1": "2000", "account 25": "8600", "account -1": "error 2", "account 20001": "error 2",
		"value 25 owed": "8600", "value 25 owed / 7": "8600/7", "value 20 hired*2-entries": "4", "value 2 -released/events": "-2/5", "value 3 ( released + moves )": "4", "value 3 nodes+members+decks": "0", "value 1  1 + 1 ": "2",
		"value 1 ": "error 7", "value 1  ": "error 7", "value 1 1+": "error 7", "value 1 x": "error 6", "value 1 1/0": "error 9", "value 1 " + strings.Repeat(" ", 499) + "1": "1", "value 1 " + strings.Repeat(" ", 500) + "1": "error 8", "value 20001 1+": "error 2", "value -1 1": "error 2",
	} {
		wantAnswer(t, c, line, right)
	}
}

// P10.8: bills and free ends.
func TestConsoleBills(t *testing.T) {
	c := newConsole(t, theDeck()...)
	wantAnswer(t, c, "bill", "std: 4, base: 4, ladder: 1, deck: 1")
	wantAnswer(t, c, "free", "0")
	wantAnswer(t, c, "enter add 8 0 0 2000 0 0 2000", "ok")
	wantAnswer(t, c, "bill", "std: 4, base: 4, tie: 1, ladder: 1, deck: 1")
	wantAnswer(t, c, "enter add 3 5 5 0 7 7 2000", "ok") // a brace, of which there is no part
	wantAnswer(t, c, "bill", "error 6")
	wantAnswer(t, c, "free", "1")
	wantAnswer(t, c, "enter remove 0 0 0 0 0 0 2000", "ok") // the deck, the ladder, the tie, the brace and a base
	wantAnswer(t, c, "free", "5")
}

// P10.8: other lines.
func TestOtherLines(t *testing.T) {
	c := newConsole(t, theDeck()...)
	lines := []string{"", " ", "?", "help", "x", "tag", "tag a", "tag 1", "tag a b 1", "tag a 1 ", "tag a  1", " tag a 1", "tag a 01", "tag a 123456", "tag a x", "tag a", "tag a ", "tag  ", "tags a 1",
		"due", "due ", "due 1 ", "due  1", "due 1 2", "due x", "due 01", "due +1", "due -0", "due 100000", "due -100000", "due 1\n", "due a 1", "Due 1", "released", "released ", "released 1 1", "released 1.0", "released 000001",
		"account", "account ", "account x", "account 1 ", "account 100000", "value", "value ", "value 1", "value entries", "value x 1", "value  1 1", "value 100000 1", "value 01 1", "value 1+1", "value\t1 1",
		"bill ", "bill 1", " bill", "bills", "bill\n", "free ", "free 1", "Free", "journal ", "journal 1", "journal\n", "correct 0 add 9 0 0 0 0 0 0", "add 9 0 0 0 0 0 0", "quit", "\xff"}
	for _, line := range lines {
		wantAnswer(t, c, line, "?")
	}
	var none *office.Console
	for _, line := range append(lines, "enter event 1 3 - 0 0 0", "tag a 1", "due 1", "released 1", "account 1", "value 1 1", "bill", "free", "journal") {
		wantAnswer(t, none, line, "?")
	}
}

// P10.8: consoles and offices with lines of chances.
func TestConsolesByTheChapter(t *testing.T) {
	d := dice()
	for range 20 {
		c, o := newConsole(t), newOffice(t)
		for range 60 {
			line := someLine(d, o)
			wantAnswer(t, c, "enter "+line, answerOf("ok", o.Enter(line)))
		}
		s := o.State()
		free, e := parts.Free(s.Scaffold)
		wantAnswer(t, c, "free", answerOf(strconv.Itoa(len(free)), e))
		wantAnswer(t, c, "journal", strconv.Itoa(len(o.Journal())))
		wantAnswer(t, c, "bill", billOf(s.Scaffold))
		for _, day := range []int{-1, 0, d.Intn(20), d.Intn(50), 20000, 20001} {
			end := " " + strconv.Itoa(day)
			for _, platform := range []string{"a", "b", "c", ""} {
				n, e := record.Tag(s.Record, platform, day)
				wantAnswer(t, c, "tag "+platform+end, answerOf([]string{"red", "yellow", "green"}[n], e))
			}
			l, e := record.Due(s.Record, day)
			wantAnswer(t, c, "due"+end, answerOf(strings.Join(l, ", "), e))
			l, e = record.Released(s.Record, day)
			wantAnswer(t, c, "released"+end, answerOf(strings.Join(l, ", "), e))
			charges, e := record.Account(theJob().Terms, s.Moves, day)
			total, _ := record.Total(charges)
			wantAnswer(t, c, "account"+end, answerOf(strconv.Itoa(total), e))
			figures, e := o.Figures(day)
			if e != api.OK {
				wantAnswer(t, c, "value"+end+" x", answerOf("", e))
				continue
			}
			for _, formula := range []string{"entries/3 + owed*2", "(nodes-members) / events", "released / (decks - hired)", "x"} {
				v, e := office.Evaluate(formula, figures)
				wantAnswer(t, c, "value"+end+" "+formula, answerOf(exact.Format(v), e))
			}
		}
	}
}

// answerOf is the answer with a text or an error.
func answerOf(s string, e api.Errno) string {
	if e != api.OK {
		return "error " + strconv.Itoa(int(e))
	}
	return s
}

// billOf is the answer to "bill", by the chapter.
func billOf(s api.Scaffold) string {
	l, e := parts.Assign(theJob().Catalogue, s)
	out := []string{}
	for i, p := range theJob().Catalogue.Parts {
		if n := len(slices.DeleteFunc(slices.Clone(l), func(part int) bool { return part != i })); n > 0 {
			out = append(out, p.Name+": "+strconv.Itoa(n))
		}
	}
	return answerOf(strings.Join(out, ", "), e)
}
