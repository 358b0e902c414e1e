package office_test

import (
	"strings"
	"testing"

	"putlog/api"
	"putlog/office"
	"putlog/record"
)

// P10.9: the state of an office is that of its entries, replayed, and an office is recovered from its journal,
// or from a beginning of it, as it was then.
func TestOfficesAgain(t *testing.T) {
	d := dice()
	for range 15 {
		o := newOffice(t)
		ends, then := []int{0}, []string{text([]any{o.Entries(), o.State()})} // behind each line
		for range 50 {
			if o.Enter(someLine(d, o)) == api.OK {
				ends, then = append(ends, len(o.Journal())), append(then, text([]any{o.Entries(), o.State()}))
			}
		}
		s, n, e := office.Replay(theJob(), o.Entries())
		want(t, "Replay", s, e, o.State(), api.OK)
		want(t, "the number of entries", n, e, len(o.Entries()), api.OK)
		for range 20 {
			journal := o.Journal()[:d.Intn(len(o.Journal())+1)]
			lines := strings.Count(journal, "\n")
			back, n, e := office.Recover(theJob(), journal)
			want(t, "Recover", n, e, ends[lines], api.OK)
			if got := text([]any{back.Entries(), back.State()}); got != then[lines] {
				t.Errorf("Recover: %s; then: %s", got, then[lines])
			}
			want(t, "Journal", back.Journal(), e, o.Journal()[:n], api.OK)
		}
	}
}

// P10.9: behind an add or remove no platform is green.
func TestNothingIsGreenBehindChanges(t *testing.T) {
	d := dice()
	was := 0
	for range 300 {
		o := newOffice(t, "add 9 0 0 0 0 0 0", "add 0 0 0 0 0 0 2000", "event 1 0 a 7 0 0", "event 1 1 a 0 1 0", "event 2 0 b 7 0 0", "event 2 1 b 0 1 0")
		for range d.Intn(8) {
			o.Enter(someEvent(d, o.State()))
		}
		last := o.State().Record
		day := last[len(last)-1].Day
		green, e := record.Released(last, day)
		wantError(t, "Released", e, api.OK)
		was += len(green)
		wantError(t, "Enter of a tie", o.Enter("add 8 0 0 2000 0 0 2000"), api.OK)
		for ; day < 40; day++ {
			green, e = record.Released(o.State().Record, day)
			want(t, "Released behind a change", green, e, []string{}, api.OK)
		}
	}
	if was < 100 {
		t.Errorf("only %d platforms were green", was)
	}
}
