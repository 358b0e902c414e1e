package parts_test

import (
	"fmt"
	"math"
	"reflect"
	"testing"

	"putlog/api"
	"putlog/parts"
)

// A stretch is the memory of the elements of a slice.
type stretch struct{ from, to uintptr }

// memory lists the stretches of all slices within the values.
func memory(values ...any) []stretch {
	var out []stretch
	for _, v := range values {
		out = append(out, memoryOf(reflect.ValueOf(v))...)
	}
	return out
}

func memoryOf(v reflect.Value) []stretch {
	var out []stretch
	switch v.Kind() {
	case reflect.Interface:
		return memoryOf(v.Elem())
	case reflect.Slice:
		if v.Cap() > 0 {
			out = append(out, stretch{v.Pointer(), v.Pointer() + uintptr(v.Cap())*v.Type().Elem().Size()})
		}
		for i := range v.Len() {
			out = append(out, memoryOf(v.Index(i))...)
		}
	case reflect.Struct:
		for i := range v.NumField() {
			out = append(out, memoryOf(v.Field(i))...)
		}
	}
	return out
}

// shown shows values, and what lies in the memory of their slices beyond the ends.
func shown(v reflect.Value) string {
	out := ""
	switch v.Kind() {
	case reflect.Interface:
		return shown(v.Elem())
	case reflect.Slice:
		out += fmt.Sprint(v.Len())
		v = v.Slice(0, v.Cap())
		for i := range v.Len() {
			out += "," + shown(v.Index(i))
		}
	case reflect.Struct:
		for i := range v.NumField() {
			out += "." + shown(v.Field(i))
		}
	default:
		out = fmt.Sprint(v.Interface())
	}
	return out
}

// watch runs a call twice, and checks that it leaves its argument as it is, shares no memory, and returns
// the same again (R3 and R4).
func watch(t *testing.T, what string, argument any, call func() []any) {
	t.Helper()
	before := shown(reflect.ValueOf(argument))
	first, second := call(), call()
	if shown(reflect.ValueOf(argument)) != before {
		t.Errorf("%s writes into its argument", what)
	}
	if !same(first, second) {
		t.Errorf("%s returns %v, then %v", what, first, second)
	}
	all := memory(append(append([]any{argument}, first...), second...)...)
	own := len(memory(argument))
	for i := own; i < len(all); i++ {
		for j := range i {
			if all[i].from < all[j].to && all[j].from < all[i].to {
				t.Errorf("%s: a result shares memory", what)
				return
			}
		}
	}
}

// spare is a list with memory beyond its end.
func spare[T any](l []T) []T {
	var zero T
	return append(append([]T{}, l...), zero, zero, zero)[:len(l)]
}

// R3 and R4 of the functions with catalogues alone.
func TestRulesOfCatalogues(t *testing.T) {
	d := dice()
	for range 50 {
		c := someCatalogue(d)
		c = api.Catalogue{Parts: spare(c.Parts), Pairs: spare(c.Pairs)}
		l := spare([]int{0, 1, 2, 1})
		bill := spare(make([]int, len(c.Parts)))
		all := []any{c, l, bill}
		watch(t, "CheckCatalogue", all, func() []any { return []any{parts.CheckCatalogue(c)} })
		watch(t, "Find", all, func() []any { n, e := parts.Find(c, "p1"); return []any{n, e} })
		watch(t, "Fitting", all, func() []any { n, e := parts.Fitting(c, 1, 1); return []any{n, e} })
		watch(t, "Substitutes", all, func() []any { n, e := parts.Substitutes(c, 1); return []any{n, e} })
		watch(t, "Joins", all, func() []any { n, e := parts.Joins(c, 1, 1); return []any{n, e} })
		watch(t, "Bill", all, func() []any { n, e := parts.Bill(c, l); return []any{n, e} })
		watch(t, "Mass", all, func() []any { n, e := parts.Mass(c, bill); return []any{n, e} })
	}
}

// R3 and R4 of the functions with scaffolds.
func TestRulesOfScaffolds(t *testing.T) {
	d := dice()
	for range 50 {
		c, s, o := someCatalogue(d), small(d), small(d)
		c = api.Catalogue{Parts: spare(c.Parts), Pairs: spare(c.Pairs)}
		s = api.Scaffold{Nodes: spare(s.Nodes), Members: spare(s.Members)}
		o = api.Scaffold{Nodes: spare(o.Nodes), Members: spare(o.Members)}
		l := spare(someParts(t, d, c, s))
		walls, boxes := spare([]api.Edge{edge(0, 1, 2)}), spare([]api.Box{box(0, 0, 0, 1, 1, 1)})
		x, _ := parts.Diff(s, o)
		x = api.Change{Added: spare(x.Added), Removed: spare(x.Removed)}
		all := []any{c, s, o, l, walls, boxes, x}
		watch(t, "Check", all, func() []any { return []any{parts.Check(s)} })
		watch(t, "Normal", all, func() []any { n, e := parts.Normal(s); return []any{n, e} })
		watch(t, "Normal of Normal", all, func() []any { n, _ := parts.Normal(s); m, e := parts.Normal(n); return []any{n, m, e} })
		watch(t, "Square", all, func() []any { n, e := parts.Square(s, 0); return []any{n, e} })
		watch(t, "Components", all, func() []any { n, e := parts.Components(s); return []any{n, e} })
		watch(t, "Assign", all, func() []any { n, e := parts.Assign(c, s); return []any{n, e} })
		watch(t, "Joints", all, func() []any { n, e := parts.Joints(c, s, l); return []any{n, e} })
		watch(t, "Free", all, func() []any { n, e := parts.Free(s); return []any{n, e} })
		watch(t, "Sides", all, func() []any { n, e := parts.Sides(s); return []any{n, e} })
		watch(t, "Unprotected", all, func() []any { n, e := parts.Unprotected(s, walls); return []any{n, e} })
		watch(t, "Reached", all, func() []any { n, e := parts.Reached(s); return []any{n, e} })
		watch(t, "Blocked", all, func() []any { n, e := parts.Blocked(s, boxes); return []any{n, e} })
		watch(t, "Places", all, func() []any { n, e := parts.Places(s); return []any{n, e} })
		watch(t, "Diff", all, func() []any { n, e := parts.Diff(s, o); return []any{n, e} })
		watch(t, "Apply", all, func() []any { n, e := parts.Apply(s, x); return []any{n, e} })
		watch(t, "Print", all, func() []any { n, e := parts.Print(s); return []any{n, e} })
		text, _ := parts.Print(s)
		watch(t, "Parse", text, func() []any { n, i, e := parts.Parse(text); return []any{n, i, e} })
	}
}

// P1 and R2: any numbers may be anywhere. Beside an error all other results are zero (R1).
func TestRulesOfAnything(t *testing.T) {
	d := dice()
	values := []int{math.MinInt, -1000001, -1, 0, 1, 2, 3, 4, 5, 6, 7, 8, 9, 10, 2000, 1000000, 1000001, math.MaxInt}
	any := func() int { return values[d.Intn(len(values))] }
	change := func(places ...*int) {
		if d.Intn(2) == 0 {
			*places[d.Intn(len(places))] = any()
		}
	}
	zero := func(what string, result interface{}, e api.Errno) {
		if e != api.OK && !reflect.ValueOf(result).IsZero() {
			t.Errorf("%s: %v beside error %d", what, result, e)
		}
	}
	for range 20000 {
		c, s := theCatalogue(), theScaffold()
		change(&c.Parts[1].Kind, &c.Parts[2].Square, &c.Parts[3].Mass, &c.Parts[4].Strength, &c.Parts[5].Ends[0], &c.Parts[6].Ends[1], &c.Pairs[0][0], &c.Pairs[1][1])
		change(&s.Nodes[0].X, &s.Nodes[4].Y, &s.Nodes[7].Z, &s.Members[0].Kind, &s.Members[4].A, &s.Members[7].B, &s.Members[8].A, &s.Members[8].B)
		l := theParts()
		change(&l[0], &l[8])
		x := box(any(), any(), any(), any(), any(), any())
		wall := edge(any(), any(), any())
		p := api.Change{Added: []api.Place{place(any(), any(), any(), any(), any(), any(), any())}, Removed: thePlaces()[:d.Intn(9)]}
		i, e := parts.Square(s, any())
		zero("Square", i, e)
		i, e = parts.Mass(c, []int{any(), any(), 0, 0, 0, 0, 0, 0, 0, any()})
		zero("Mass", i, e)
		n, e := parts.Fitting(c, any(), any())
		zero("Fitting", n, e)
		n, e = parts.Substitutes(c, any())
		zero("Substitutes", n, e)
		is, e := parts.Joins(c, any(), any())
		zero("Joins", is, e)
		n, e = parts.Assign(c, s)
		zero("Assign", n, e)
		n, e = parts.Joints(c, s, l)
		zero("Joints", n, e)
		n, e = parts.Bill(c, l)
		zero("Bill", n, e)
		n, e = parts.Blocked(s, []api.Box{x})
		zero("Blocked", n, e)
		n, e = parts.Reached(s)
		zero("Reached", n, e)
		n, e = parts.Free(s)
		zero("Free", n, e)
		sides, e := parts.Unprotected(s, []api.Edge{wall})
		zero("Unprotected", sides, e)
		o, e := parts.Apply(s, p)
		zero("Apply", o, e)
		o, e = parts.Normal(s)
		zero("Normal", o, e)
		text, e := parts.Print(s)
		zero("Print", text, e)
	}
}
