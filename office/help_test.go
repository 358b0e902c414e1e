package office_test

import (
	"fmt"
	"math/rand"
	"regexp"
	"slices"
	"strconv"
	"strings"
	"testing"

	"putlog/api"
	"putlog/office"
	"putlog/parts"
	"putlog/record"
)

// The tests call the exported functions only. They compare with the chapter's definitions, written down
// once more: forms as expressions, states told from the first entry on, formulas cut up from behind.

// dice is a repeatable row of chances.
func dice() *rand.Rand { return rand.New(rand.NewSource(10)) }

// same compares two values by their texts, in which a nil slice is as an empty one.
func same(a, b any) bool { return text(a) == text(b) }

func text(x any) string { return strings.ReplaceAll(fmt.Sprintf("%#v", x), "(nil)", "{}") }

// want compares what a call returns with what it should.
func want(t *testing.T, what string, got any, e api.Errno, right any, f api.Errno) {
	t.Helper()
	if !same(got, right) || e != f {
		t.Errorf("%s: %v, error %d; want %v, error %d", what, got, e, right, f)
	}
}

// wantError compares an error.
func wantError(t *testing.T, what string, e, right api.Errno) {
	t.Helper()
	if e != right {
		t.Errorf("%s: error %d, want %d", what, e, right)
	}
}

// theJob is a job with something of all that a job may have.
func theJob() api.Job {
	l := []api.Point{{}, {X: 4000}, {X: 4000, Y: 2000}, {X: 2000, Y: 2000}, {X: 2000, Y: 4000}, {Y: 4000}}
	return api.Job{
		Name: "job-1",
		Building: api.Building{
			Name: "hut",
			Storeys: []api.Storey{
				{Floor: 0, Outline: l},
				{Floor: 3000, Outline: []api.Point{{}, {X: 2000}, {X: 2000, Y: 4000}, {Y: 4000}}},
			},
			Roof:     6000,
			Openings: []api.Opening{{Storey: 0, Wall: 0, From: 500, To: 1500, Bottom: 900, Top: 2100}, {Storey: 1, Wall: 3, From: 0, To: 4000, Bottom: 0, Top: 3000}},
			Boxes:    []api.Box{{X1: -2000, Y1: 5000, Z1: -10, X2: -1000, Y2: 6000, Z2: 1000}},
		},
		System: api.System{Bays: []int{1000, 2500}, Boards: []int{500}, Width: 700, Gap: 300, Lift: 2000},
		Catalogue: api.Catalogue{
			Parts: []api.Part{
				{Name: "std", Kind: 0, Square: 4000000, Mass: 9000, Strength: 20000, Ends: [2]int{1, 2}},
				{Name: "base", Kind: 9, Square: 0, Mass: 3000, Strength: 40000, Ends: [2]int{3, 3}},
				{Name: "tie", Kind: 8, Mass: 1000, Strength: 5000, Ends: [2]int{4, 4}},
				{Name: "std-b", Kind: 0, Square: 4000000, Mass: 8000, Strength: 10000, Ends: [2]int{1, 2}},
				{Name: "ladder", Kind: 7, Square: 4000000, Mass: 7000, Strength: 1500, Ends: [2]int{5, 6}},
				{Name: "deck", Kind: 6, Square: 4490000, Mass: 15000, Strength: 3000, Ends: [2]int{7, 8}},
			},
			Pairs: [][2]int{{1, 2}, {3, 1}, {4, 2}},
		},
		Terms: []api.Term{{Part: "std", Week: 100, Least: 2, Price: 5000}, {Part: "board", Week: 30, Least: 0, Price: 700}},
	}
}

// theJobText is the text of this job.
const theJobText = `job job-1
building hut
storey 0 0,0 4000,0 4000,2000 2000,2000 2000,4000 0,4000
storey 3000 0,0 2000,0 2000,4000 0,4000
roof 6000
opening 0 0 500 1500 900 2100
opening 1 3 0 4000 0 3000
box -2000 5000 -10 -1000 6000 1000
system
bays 1000 2500
boards 500
width 700
gap 300
lift 2000
part std 0 4000000 9000 20000 1 2
part base 9 0 3000 40000 3 3
part tie 8 0 1000 5000 4 4
part std-b 0 4000000 8000 10000 1 2
part ladder 7 4000000 7000 1500 5 6
part deck 6 4490000 15000 3000 7 8
pair 1 2
pair 3 1
pair 4 2
term std 100 2 5000
term board 30 0 700
end
`

// smallJob is a job with no more than a job must have.
func smallJob() api.Job {
	return api.Job{
		Name: "j",
		Building: api.Building{
			Name:    "b",
			Storeys: []api.Storey{{Outline: []api.Point{{}, {X: 1}, {X: 1, Y: 1}, {Y: 1}}}},
			Roof:    1,
		},
		System: api.System{Bays: []int{1}, Width: 1, Lift: 1},
	}
}

// smallJobText is the text of the small job.
const smallJobText = "job j\nbuilding b\nstorey 0 0,0 1,0 1,1 0,1\nroof 1\n" +
	"system\nbays 1\nboards\nwidth 1\ngap 0\nlift 1\nend\n"

// theDeck is entries for the smallest scaffold with a deck and a ladder to it.
func theDeck() []string {
	return []string{
		"add 9 0 0 0 0 0 0", "add 9 2000 0 0 2000 0 0", "add 9 2000 700 0 2000 700 0", "add 9 0 700 0 0 700 0",
		"add 0 0 0 0 0 0 2000", "add 0 2000 0 0 2000 0 2000", "add 0 2000 700 0 2000 700 2000", "add 0 0 700 0 0 700 2000",
		"add 6 0 0 2000 2000 700 2000", "add 7 0 0 0 0 0 2000",
	}
}

// theMoves is entries for the moves of chapter 9's example.
func theMoves() []string { return []string{"move 1 0 std 10", "move 20 1 std 4", "move 25 2 std 1"} }

// number and others are the words of the forms, as expressions.
const (
	numberWord = `(0|-?[1-9][0-9]{0,6})`
	anyWord    = `([^ \n]+)`
	truthWord  = `([01])`
)

// expression is an expression for a whole line, between the words of which stand single blanks.
func expression(words ...string) *regexp.Regexp {
	return regexp.MustCompile(`\A` + strings.Join(words, " ") + `\z`)
}

// forms is the forms of entries.
func forms() []*regexp.Regexp {
	n, w, b := numberWord, anyWord, truthWord
	return []*regexp.Regexp{
		expression("event", n, n, w, n, b, b),
		expression("move", n, n, w, n),
		expression("(add)", n, n, n, n, n, n, n),
		expression("(remove)", n, n, n, n, n, n, n),
	}
}

// allForms is the forms of entries, made once.
var allForms = forms()

// correctionForm is the beginning of a correction.
var correctionForm = regexp.MustCompile(`\Acorrect ` + numberWord + ` `)

// partsOf is the number of the form that an entry has, or -1, and its words but the first.
func partsOf(entry string) (int, []string) {
	for i, f := range allForms {
		if words := f.FindStringSubmatch(entry); words != nil {
			return i, words[1:]
		}
	}
	return -1, nil
}

// numbersOf is the numbers that words are.
func numbersOf(words ...string) []int {
	out := []int{}
	for _, w := range words {
		n, err := strconv.Atoi(w)
		if err != nil {
			panic(err)
		}
		out = append(out, n)
	}
	return out
}

// nextOf is the state that an entry makes of a state, by the chapter.
func nextOf(j api.Job, s api.State, entry string) (api.State, api.Errno) {
	form, words := partsOf(entry)
	switch form {
	case 0:
		n := numbersOf(words[0], words[1], words[3], words[4], words[5])
		x := api.Event{Day: n[0], Kind: n[1], Platform: words[2], Number: n[2], Passed: n[3] == 1, Grave: n[4] == 1}
		if x.Platform == "-" {
			x.Platform = ""
		}
		s.Record = append(slices.Clone(s.Record), x)
		if e := record.CheckRecord(s.Record); e != api.OK {
			return api.State{}, e
		}
		if l, _ := parts.Free(s.Scaffold); x.Kind == 0 && len(l) > 0 {
			return api.State{}, api.ErrFree
		}
		return s, api.OK
	case 1:
		n := numbersOf(words[0], words[1], words[3])
		s.Moves = append(slices.Clone(s.Moves), api.Move{Day: n[0], Kind: n[1], Part: words[2], Count: n[2]})
		if e := record.CheckMoves(j.Terms, s.Moves); e != api.OK {
			return api.State{}, e
		}
		return s, api.OK
	case 2, 3:
		return alteredOf(s, words)
	}
	return api.State{}, api.ErrSyntax
}

// alteredOf is the state that an entry of the form "add" or "remove" makes of a state.
func alteredOf(s api.State, words []string) (api.State, api.Errno) {
	n := numbersOf(words[1:]...)
	l := []api.Place{{Kind: n[0], From: api.Node{X: n[1], Y: n[2], Z: n[3]}, To: api.Node{X: n[4], Y: n[5], Z: n[6]}}}
	c := api.Change{Added: l}
	if words[0] == "remove" {
		c = api.Change{Removed: l}
	}
	scaffold, e := parts.Apply(s.Scaffold, c)
	if e != api.OK {
		return api.State{}, e
	}
	s.Scaffold = scaffold
	names := map[string]bool{}
	for _, x := range s.Record {
		names[x.Platform] = true
	}
	delete(names, "")
	order := []string{}
	for name := range names {
		order = append(order, name)
	}
	slices.Sort(order)
	s.Record = slices.Clone(s.Record)
	for _, name := range order {
		s.Record = append(s.Record, api.Event{Day: s.Record[len(s.Record)-1].Day, Kind: 6, Platform: name})
	}
	if e := record.CheckRecord(s.Record); e != api.OK {
		return api.State{}, e
	}
	return s, api.OK
}

// replayOf is the state of entries, by the chapter, up to the first that has an error, how many they are,
// and this error.
func replayOf(j api.Job, entries []string) (api.State, int, api.Errno) {
	s := api.State{}
	for i, entry := range entries {
		next, e := nextOf(j, s, entry)
		if e != api.OK {
			return s, i, e
		}
		s = next
	}
	return s, len(entries), api.OK
}

// newOffice is an office of the job in which lines were entered.
func newOffice(t *testing.T, lines ...string) *office.Office {
	t.Helper()
	o, e := office.New(theJob())
	wantError(t, "New", e, api.OK)
	for _, l := range lines {
		wantError(t, "Enter of "+l, o.Enter(l), api.OK)
	}
	return o
}

// someEntry is an entry of chances that may fit a state.
func someEntry(d *rand.Rand, s api.State) string {
	switch d.Intn(6) {
	case 0, 1, 2:
		return somePlace(d, s)
	case 3:
		return someMove(d, s)
	}
	return someEvent(d, s)
}

// somePlace is an entry for a member among few places, one that is there or one that is not.
func somePlace(d *rand.Rand, s api.State) string {
	there, _ := parts.Places(s.Scaffold)
	if len(there) > 0 && d.Intn(4) == 0 {
		return office.FormatPlace(false, there[d.Intn(len(there))])
	}
	foot := api.Node{X: 2000 * d.Intn(2), Y: 700 * d.Intn(2), Z: 2000 * d.Intn(2)}
	top := foot
	top.Z += 2000
	l := []api.Place{
		{Kind: 9, From: foot, To: foot}, {Kind: 0, From: foot, To: top}, {Kind: 0, From: foot, To: top},
		{Kind: 6, From: api.Node{Z: top.Z}, To: api.Node{X: 2000, Y: 700, Z: top.Z}},
		{Kind: 8, From: top, To: top}, {Kind: 7, From: foot, To: top},
	}
	return office.FormatPlace(d.Intn(12) > 0, l[d.Intn(len(l))])
}

// someMove is an entry for a move behind those of a state.
func someMove(d *rand.Rand, s api.State) string {
	m := api.Move{Kind: d.Intn(3), Part: []string{"std", "board"}[d.Intn(2)], Count: 1 + d.Intn(9)}
	if len(s.Moves) > 0 {
		m.Day = s.Moves[len(s.Moves)-1].Day + d.Intn(4)
	}
	if d.Intn(2) == 0 {
		m.Kind = 0
	}
	return office.FormatMove(m)
}

// someEvent is an entry for an event behind those of a state.
func someEvent(d *rand.Rand, s api.State) string {
	x := api.Event{Kind: d.Intn(6), Platform: []string{"a", "b", "c"}[d.Intn(3)]}
	if len(s.Record) > 0 {
		x.Day = s.Record[len(s.Record)-1].Day + d.Intn(3)
	}
	switch x.Kind {
	case 0:
		x.Number = d.Intn(100)
	case 1, 2:
		x.Passed = d.Intn(5) > 0
	case 3:
		x.Platform = ""
	case 4:
		x.Number, x.Grave = d.Intn(3), d.Intn(2) == 0
	case 5:
		x.Number = d.Intn(3)
	}
	return office.FormatEvent(x)
}

// spoiled is a text with a small change somewhere.
func spoiled(d *rand.Rand, s string, bytes string) string {
	at := d.Intn(len(s) + 1)
	some := string(bytes[d.Intn(len(bytes))])
	switch d.Intn(3) {
	case 0:
		return s[:at] + some + s[at:]
	case 1:
		return s[:at] + some + s[min(at+1, len(s)):]
	}
	return s[:at] + s[min(at+1, len(s)):]
}
