package office_test

import (
	"math"
	"math/rand"
	"reflect"
	"strings"
	"testing"

	"putlog/api"
	"putlog/exact"
	"putlog/office"
)

// spotsOf calls a function for all numbers, texts, truth values and slices within a value that can be set.
func spotsOf(v reflect.Value, call func(spot reflect.Value)) {
	switch v.Kind() {
	case reflect.Slice, reflect.Array:
		if v.Kind() == reflect.Slice {
			call(v)
		}
		for i := range v.Len() {
			spotsOf(v.Index(i), call)
		}
	case reflect.Struct:
		for i := range v.NumField() {
			spotsOf(v.Field(i), call)
		}
	default:
		call(v)
	}
}

// overwrite changes all that lies in a value, also beyond the ends of slices; p is a pointer to it.
func overwrite(p any) {
	spotsOf(reflect.ValueOf(p).Elem(), func(spot reflect.Value) {
		switch spot.Kind() {
		case reflect.Int:
			spot.SetInt(spot.Int() + 1)
		case reflect.Uint32:
			spot.SetUint(spot.Uint() + 1)
		case reflect.String:
			spot.SetString(spot.String() + "x")
		case reflect.Bool:
			spot.SetBool(!spot.Bool())
		case reflect.Slice:
			whole := spot.Slice(0, spot.Cap())
			for i := spot.Len(); i < whole.Len(); i++ {
				spotsOf(whole.Index(i), func(s reflect.Value) { s.SetZero() })
			}
		}
	})
}

// roomy is a list with memory beyond its end.
func roomy[T any](l []T) []T { return append(make([]T, 0, len(l)+3), l...) }

// roomyState is a state the lists of which have memory beyond their ends.
func roomyState(s api.State) api.State {
	return api.State{Record: roomy(s.Record), Moves: roomy(s.Moves), Scaffold: api.Scaffold{Nodes: roomy(s.Scaffold.Nodes), Members: roomy(s.Scaffold.Members)}}
}

// beyond is a state with the memory beyond the ends of its lists.
func beyond(s api.State) api.State {
	return api.State{
		Record: s.Record[:cap(s.Record)], Moves: s.Moves[:cap(s.Moves)],
		Scaffold: api.Scaffold{Nodes: s.Scaffold.Nodes[:cap(s.Scaffold.Nodes)], Members: s.Scaffold.Members[:cap(s.Scaffold.Members)]},
	}
}

// R3: Next writes into no argument, and shares no memory with it.
func TestNextSharesNothing(t *testing.T) {
	for _, entry := range []string{"event 2 3 - 0 0 0", "event 2 0 c 1 0 0", "move 25 0 std 1", "add 8 0 0 2000 0 0 2000", "remove 6 0 0 2000 2000 700 2000", "x"} {
		s := roomyState(builtState(t))
		before := text(beyond(s))
		first, e := office.Next(theJob(), s, entry)
		if text(beyond(s)) != before {
			t.Errorf("Next of %s writes into the state", entry)
		}
		again, f := office.Next(theJob(), s, entry)
		want(t, "Next once more", again, f, first, e)
		overwrite(&first)
		if text(beyond(s)) != before {
			t.Errorf("Next of %s shares memory with the state", entry)
		}
		overwrite(&s)
		right, _ := nextOf(theJob(), builtState(t), entry)
		want(t, "what Next returned", again, f, right, f)
	}
}

// R3: an office keeps no argument, and no result shares memory with it.
func TestOfficesShareNothing(t *testing.T) {
	j := theJob()
	j.Terms, j.Catalogue.Parts, j.Catalogue.Pairs = roomy(j.Terms), roomy(j.Catalogue.Parts), roomy(j.Catalogue.Pairs)
	o, _ := office.New(j)
	c, _ := office.NewConsole(j)
	back, _, _ := office.Recover(j, newJournal(theLines()[:4]...))
	overwrite(&j)
	for i, l := range theLines() {
		wantError(t, "Enter", o.Enter(l), api.OK)
		wantAnswer(t, c, "enter "+l, "ok")
		if i >= 4 {
			wantError(t, "Enter", back.Enter(l), api.OK)
		}
		for _, o := range []*office.Office{o, back} {
			entries, s := o.Entries(), o.State()
			overwrite(&entries)
			overwrite(&s)
			figures, _ := o.Figures(20)
			overwrite(&figures)
			entries = append(entries, "x")
		}
	}
	wantAnswer(t, c, "bill", "std: 4, base: 4, tie: 1, ladder: 1, deck: 1")
	wantAnswer(t, c, "account 25", "9400")
	wantOffice(t, o, theLines())
	wantOffice(t, back, theLines())
	l, e := o.Figures(25)
	want(t, "Figures", l, e, figuresOf(t, o, 25), api.OK)
}

// R3: figures share no memory, nor do names and values with arguments.
func TestFormulasShareNothing(t *testing.T) {
	for _, formula := range []string{"a", "b2", "zero", "-a", "(a)", "a+b2", "a-b2", "a*b2", "a/b2", "--a", "nothing", "abcdefghijkl"} {
		l := theFigures()
		x, e := office.Evaluate(formula, l)
		y, f := office.Evaluate(formula, l)
		overwrite(&x)
		if !same(l, theFigures()) {
			t.Errorf("Evaluate of %s shares memory with the figures", formula)
		}
		overwrite(&l)
		z, g := office.Evaluate(formula, theFigures())
		want(t, "Evaluate of "+formula, y, f, z, g)
		wantError(t, "Evaluate of "+formula, e, api.OK)
	}
	l, e := office.Uses("b+a")
	again, f := office.Uses("b+a")
	overwrite(&l)
	want(t, "Uses", again, f, []string{"a", "b"}, e)
}

// R3: ParseJob returns a new job each time, Verify writes into no claim.
func TestJobsShareNothing(t *testing.T) {
	j, _, e := office.ParseJob(theJobText)
	overwrite(&j)
	j, _, f := office.ParseJob(theJobText)
	want(t, "ParseJob", j, e, theJob(), f)
	for kind, c := range theClaims(t) {
		before := text(c)
		office.Verify(c)
		if text(c) != before {
			t.Errorf("Verify of kind %d writes into the claim", kind)
		}
	}
}

// R4: offices do not know of each other; what an office was asked changes nothing.
func TestOfficesAreApart(t *testing.T) {
	d := dice()
	o, p := newOffice(t), newOffice(t)
	for range 100 {
		line := someLine(d, o)
		e := o.Enter(line)
		p.Enter(wildEntry(d, p.State()))
		p.Figures(d.Intn(30))
		o.Journal()
		o.Figures(d.Intn(30) - 2)
		right, _, _ := replayOf(theJob(), o.Entries())
		want(t, "State", o.State(), e, right, e)
	}
}

// R9: a claim and a figure are read by their values, whatever their representation.
func TestRepresentations(t *testing.T) {
	c := theClaims(t)[0]
	c.Optimum.Value = api.Rat{Num: api.Int{Neg: true, Limbs: []uint32{22, 0}}, Den: api.Int{Neg: true, Limbs: []uint32{2, 0, 0}}}
	wantError(t, "Verify", office.Verify(c), api.OK)
	for _, f := range theFigures() {
		x, e := office.Evaluate("x", []api.Figure{{Name: "x", Value: f.Value}})
		want(t, "Evaluate", x, e, exact.Normal(f.Value), api.OK)
	}
}

// wildText is a text of chances.
func wildText(d *rand.Rand) string {
	words := []string{"event", "move", "add", "remove", "correct", "enter", "tag", "value", "bill", " ", " ", " ", " ", "-", "1", "0", "99999999", "a", "std", "(", ")", "/", "+", "#", "\n", "\x00", "\xff", "job", "system", "end\n"}
	out := ""
	for range d.Intn(12) {
		out += words[d.Intn(len(words))]
	}
	return out
}

// P1 and R2: anything may be anywhere.
func TestRulesOfAnything(t *testing.T) {
	d := dice()
	c, o := newConsole(t), newOffice(t)
	for range 3000 {
		s := wildText(d)
		o.Enter(s)
		c.Do(s)
		office.Uses(s)
		office.Evaluate(s, theFigures())
		office.ParseJob(s)
		office.Recover(smallJob(), s)
		office.Recover(smallJob(), newJournal(strings.Split(s, "\n")...))
	}
	want(t, "Entries", o.Entries(), api.OK, []string{}, api.OK)
	numbers := []int{math.MinInt, -1000001, -1, 0, 0, 1, 2, 3, 7, 1000000, 1000001, math.MaxInt}
	texts := []string{"", "a", "std", "A b", "\n", "\xff"}
	entries := []string{"event 2 3 - 0 0 0", "event 2 0 c 1 0 0", "event 2 4 a 1 0 1", "move 25 0 std 1", "move 25 2 std 1", "add 8 0 0 2000 0 0 2000", "add 6 0 0 0 2000 700 0", "remove 6 0 0 2000 2000 700 2000"}
	made, refused := 0, 0
	for range 4000 {
		s := builtState(t)
		j := smallJob()
		j.Terms = theJob().Terms
		spoil(d, &s, numbers, texts)
		if d.Intn(10) == 0 {
			spoil(d, &j, numbers, texts)
		}
		next, e := office.Next(j, s, entries[d.Intn(len(entries))])
		if e == api.OK {
			made++
		} else {
			refused++
			want(t, "the state beside an error", next, e, api.State{}, e)
		}
	}
	if made < 300 || refused < 300 {
		t.Errorf("%d states were made, %d refused", made, refused)
	}
	for _, c := range theClaims(t) {
		for range 60 {
			claim := copyOf(c)
			spoil(d, &claim, numbers, texts)
			claim.Kind = d.Intn(9)
			office.Verify(claim)
		}
	}
}

// spoil changes a few things somewhere in a value, to which p is a pointer.
func spoil(d *rand.Rand, p any, numbers []int, texts []string) {
	spots := []reflect.Value{}
	spotsOf(reflect.ValueOf(p).Elem(), func(spot reflect.Value) { spots = append(spots, spot) })
	for range d.Intn(3) {
		switch spot := spots[d.Intn(len(spots))]; spot.Kind() {
		case reflect.Int:
			spot.SetInt(int64(numbers[d.Intn(len(numbers))]))
		case reflect.Uint32:
			spot.SetUint(uint64(d.Uint32()))
		case reflect.String:
			spot.SetString(texts[d.Intn(len(texts))])
		case reflect.Bool:
			spot.SetBool(!spot.Bool())
		case reflect.Slice:
			spot.SetLen(d.Intn(spot.Len() + 1))
		}
	}
}

// copyOf is a claim in memory of its own.
func copyOf(c api.Claim) api.Claim {
	out := reflect.New(reflect.TypeOf(c)).Elem()
	copyInto(out, reflect.ValueOf(c))
	return out.Interface().(api.Claim)
}

func copyInto(to, from reflect.Value) {
	switch from.Kind() {
	case reflect.Slice:
		to.Set(reflect.MakeSlice(from.Type(), from.Len(), from.Len()))
		fallthrough
	case reflect.Array:
		for i := range from.Len() {
			copyInto(to.Index(i), from.Index(i))
		}
	case reflect.Struct:
		for i := range from.NumField() {
			copyInto(to.Field(i), from.Field(i))
		}
	default:
		to.Set(from)
	}
}

// R2: a log with many entries that is corrected again and again.
func TestManyCorrections(t *testing.T) {
	o := newOffice(t)
	for i := range 270 {
		place := api.Place{Kind: 3, From: api.Node{X: 3 * i}, To: api.Node{X: 3*i + 1, Z: 1}}
		wantError(t, "Enter", o.Enter(office.FormatPlace(true, place)), api.OK)
	}
	for i := range 10 {
		place := api.Place{Kind: 9, From: api.Node{X: -i}, To: api.Node{X: -i}}
		wantError(t, "Enter", o.Enter("correct 0 "+office.FormatPlace(true, place)), api.OK)
	}
	want(t, "the first entry", o.Entries()[0], api.OK, "add 9 -9 0 0 -9 0 0", api.OK)
	want(t, "the members", len(o.State().Scaffold.Members), api.OK, 270, api.OK)
}
