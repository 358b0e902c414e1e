package erection_test

import (
	"fmt"
	"math"
	"math/rand"
	"reflect"
	"testing"

	"putlog/api"
	"putlog/erection"
)

// A function calls a function of the package with an input; the last result is the error.
type function struct {
	name string
	call func(x input) []any
}

// functions is all functions of the package but Parse.
func functions() []function {
	return []function{
		{"Check", func(x input) []any { return []any{erection.Check(x.tasks)} }},
		{"FromScaffold", func(x input) []any { l, e := erection.FromScaffold(x.scaffold); return []any{l, e} }},
		{"Ready", func(x input) []any { l, e := erection.Ready(x.tasks, x.done); return []any{l, e} }},
		{"Closed", func(x input) []any { is, e := erection.Closed(x.tasks, x.done); return []any{is, e} }},
		{"Order", func(x input) []any { l, e := erection.Order(x.tasks); return []any{l, e} }},
		{"Handlings", func(x input) []any { n, e := erection.Handlings(x.tasks, x.order); return []any{n, e} }},
		{"Fewest", func(x input) []any { l, n, e := erection.Fewest(x.tasks); return []any{l, n, e} }},
		{"Orders", func(x input) []any { n, e := erection.Orders(x.tasks); return []any{n, e} }},
		{"Reverse", func(x input) []any { l, e := erection.Reverse(x.tasks); return []any{l, e} }},
		{"Stage", func(x input) []any { s, e := erection.Stage(x.scaffold, x.tasks, x.done); return []any{s, e} }},
		{"Stable", func(x input) []any { n, e := erection.Stable(x.scaffold, x.free); return []any{n, e} }},
		{"Layers", func(x input) []any { l, e := erection.Layers(x.tasks); return []any{l, e} }},
		{"Critical", func(x input) []any { n, l, e := erection.Critical(x.tasks); return []any{n, l, e} }},
		{"CheckCrew", func(x input) []any { return []any{erection.CheckCrew(x.crew)} }},
		{"Schedule", func(x input) []any { s, e := erection.Schedule(x.tasks, x.crew); return []any{s, e} }},
		{"CheckSchedule", func(x input) []any { return []any{erection.CheckSchedule(x.tasks, x.crew, x.slots)} }},
		{"Ends", func(x input) []any { n, e := erection.Ends(x.tasks, x.slots); return []any{n, e} }},
		{"Print", func(x input) []any { s, e := erection.Print(x.tasks); return []any{s, e} }},
	}
}

// places is the functions that name a place beside an error.
func places() []function {
	return []function{
		{"Accept", func(x input) []any { n, e := erection.Accept(x.tasks, x.order); return []any{n, e} }},
		{"Dismantles", func(x input) []any { n, e := erection.Dismantles(x.tasks, x.order); return []any{n, e} }},
	}
}

// someInput is an input of small numbers, the lists of which have memory beyond their ends.
func someInput(d *rand.Rand, l []api.Node, all []api.Member) input {
	x := input{tasks: roomy(somePlan(d, 8)), free: d.Intn(5000), crew: someCrew(d), scaffold: someScaffold(d, l, all)}
	x.scaffold = api.Scaffold{Nodes: roomy(x.scaffold.Nodes), Members: roomy(x.scaffold.Members)}
	for i := range x.tasks {
		x.tasks[i].Needs = roomy(x.tasks[i].Needs)
		x.tasks[i].Member = d.Intn(len(x.scaffold.Members)+1) - 1
		if d.Intn(2) == 0 {
			x.done = append(x.done, i)
		}
	}
	x.done, x.order, x.slots = roomy(x.done), roomy(nearly(d, x.tasks)), roomy(scheduleOf(x.tasks, x.crew))
	x.crew.Gangs, x.crew.Closed = roomy(x.crew.Gangs), roomy(x.crew.Closed)
	for i, g := range x.crew.Gangs {
		x.crew.Gangs[i].Trades = roomy(g.Trades)
	}
	return x
}

// roomy is a list with memory beyond its end.
func roomy[T any](l []T) []T { return append(make([]T, 0, len(l)+3), l...) }

// slicesOf calls a function for all slices within a value, also beyond the ends of others.
func slicesOf(v reflect.Value, call func(whole reflect.Value)) {
	switch v.Kind() {
	case reflect.Interface:
		slicesOf(v.Elem(), call)
	case reflect.Slice:
		whole := v.Slice(0, v.Cap())
		call(whole)
		for i := range whole.Len() {
			slicesOf(whole.Index(i), call)
		}
	case reflect.Struct:
		for i := range v.NumField() {
			slicesOf(v.Field(i), call)
		}
	}
}

// contents is what lies in the memory of all slices within a value.
func contents(x any) string {
	out := ""
	slicesOf(reflect.ValueOf(x), func(whole reflect.Value) { out += fmt.Sprintln(whole) })
	return out
}

// isShared reports whether any two slices within a value have memory in common.
func isShared(x any) bool {
	owners := map[uintptr]bool{}
	shared := false
	slicesOf(reflect.ValueOf(x), func(whole reflect.Value) {
		for i := range whole.Len() {
			at := whole.Index(i).Addr().Pointer()
			shared = shared || owners[at]
			owners[at] = true
		}
	})
	return shared
}

// R3 and R4: a function leaves its argument as it is, shares no memory, and returns the same again.
func TestRulesOfInputs(t *testing.T) {
	d := dice()
	l := lattice()
	all := allMembers(l)
	for range 200 {
		x := someInput(d, l, all)
		for _, f := range append(functions(), places()...) {
			before := contents(argumentsOf(x))
			first, second := f.call(x), f.call(x)
			if contents(argumentsOf(x)) != before {
				t.Errorf("%s writes into its argument", f.name)
			}
			if !same(first, second) {
				t.Errorf("%s returns %v, then %v", f.name, first, second)
			}
			if isShared(append(append(argumentsOf(x), first...), second...)) {
				t.Errorf("%s shares memory", f.name)
			}
		}
	}
	first, _, _ := erection.Parse(thePlanText)
	second, _, _ := erection.Parse(thePlanText)
	if !same(first, second) || isShared([]any{first, second}) {
		t.Errorf("Parse returns %v, then %v, or shares memory", first, second)
	}
}

// argumentsOf is the arguments in an input.
func argumentsOf(x input) []any {
	return []any{x.tasks, x.done, x.order, x.scaffold, x.crew, x.slots}
}

// P1, R1 and R2: any numbers and texts may be anywhere. Beside an error all other results are zero.
func TestRulesOfAnything(t *testing.T) {
	d := dice()
	numbers := []int{math.MinInt, -1000001, -2, -1, 0, 0, 1, 1, 2, 3, 4, 5, 10, 999, 1000, 3999, 4000, 10001, 1000001, math.MaxInt}
	texts := []string{"", "a", "base", "scaffolder", "A", "a b", "\n", "\xff", "abcdefghijklm"}
	for range 20000 {
		x := fine()
		spots := []*int{&x.done[0], &x.done[1], &x.free, &x.crew.Gangs[0].From, &x.crew.Gangs[0].To,
			&x.crew.Closed[0].Place, &x.crew.Closed[0].From, &x.crew.Closed[0].To}
		words := []*string{&x.crew.Gangs[0].Name, &x.crew.Gangs[0].Trades[0]}
		for i := range 4 {
			m, n, s := &x.scaffold.Members[i], &x.scaffold.Nodes[i], &x.slots[i]
			spots = append(spots, &x.order[i], &x.tasks[i].Member, &x.tasks[i].Place, &x.tasks[i].Minutes,
				&m.Kind, &m.A, &m.B, &n.X, &n.Y, &n.Z, &s.Task, &s.Gang, &s.Start)
			for j := range x.tasks[i].Needs {
				spots = append(spots, &x.tasks[i].Needs[j])
			}
			words = append(words, &x.tasks[i].Name, &x.tasks[i].Trade)
		}
		for range d.Intn(4) {
			*spots[d.Intn(len(spots))] = numbers[d.Intn(len(numbers))]
		}
		if d.Intn(4) == 0 {
			*words[d.Intn(len(words))] = texts[d.Intn(len(texts))]
		}
		for _, f := range functions() {
			results := f.call(x)
			last := len(results) - 1
			for _, result := range results[:last] {
				if results[last] != api.OK && !reflect.ValueOf(result).IsZero() {
					t.Errorf("%s: %v beside error %d", f.name, result, results[last])
				}
			}
		}
		for _, f := range places() {
			if results := f.call(x); results[1] == api.OK && results[0] != -1 || results[0].(int) > 4 {
				t.Errorf("%s: place %d beside error %d", f.name, results[0], results[1])
			}
		}
	}
	for _, f := range append(functions(), places()...) {
		f.call(input{})
	}
}

// P1 and R2: any bytes may be a text.
func TestRulesOfTexts(t *testing.T) {
	d := dice()
	bytes := "01 2 3-ab \n\xff"
	for range 20000 {
		s := []byte{}
		for range d.Intn(14) {
			s = append(s, bytes[d.Intn(len(bytes))])
		}
		l, line, e := erection.Parse(string(s))
		if again, f := erection.Print(l); e == api.OK && (f != api.OK || again != string(s)) || e != api.OK && l != nil || (line > 0) != (e == api.ErrSyntax) {
			t.Errorf("Parse of %q: %v, line %d, error %d", s, l, line, e)
		}
	}
}
