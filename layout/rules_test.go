package layout_test

import (
	"fmt"
	"math"
	"reflect"
	"testing"

	"putlog/api"
	"putlog/layout"
)

// A part is the memory of the elements of a slice.
type part struct{ from, to uintptr }

// memory lists the parts of all slices within the values.
func memory(values ...any) []part {
	var out []part
	for _, v := range values {
		out = append(out, memoryOf(reflect.ValueOf(v))...)
	}
	return out
}

func memoryOf(v reflect.Value) []part {
	var out []part
	switch v.Kind() {
	case reflect.Interface:
		return memoryOf(v.Elem())
	case reflect.Slice:
		if v.Cap() > 0 {
			out = append(out, part{v.Pointer(), v.Pointer() + uintptr(v.Cap())*v.Type().Elem().Size()})
		}
		for i := range v.Len() {
			out = append(out, memoryOf(v.Index(i))...)
		}
	case reflect.Array:
		for i := range v.Len() {
			out = append(out, memoryOf(v.Index(i))...)
		}
	case reflect.Struct:
		for i := range v.NumField() {
			out = append(out, memoryOf(v.Field(i))...)
		}
	}
	return out
}

// shown shows values, and what lies in the memory of their slices beyond the ends.
func shown(v reflect.Value) string {
	out := ""
	switch v.Kind() {
	case reflect.Interface:
		return shown(v.Elem())
	case reflect.Slice:
		out += fmt.Sprint(v.Len())
		v = v.Slice(0, v.Cap())
		for i := range v.Len() {
			out += "," + shown(v.Index(i))
		}
	case reflect.Array:
		for i := range v.Len() {
			out += "," + shown(v.Index(i))
		}
	case reflect.Struct:
		for i := range v.NumField() {
			out += "." + shown(v.Field(i))
		}
	default:
		out = fmt.Sprint(v.Interface())
	}
	return out
}

// watch runs a call twice, and checks that it leaves its argument as it is, shares no memory, and returns
// the same again (R3 and R4).
func watch(t *testing.T, what string, argument any, call func() []any) {
	t.Helper()
	before := shown(reflect.ValueOf(argument))
	first, second := call(), call()
	if shown(reflect.ValueOf(argument)) != before {
		t.Errorf("%s writes into its argument", what)
	}
	if !same(first, second) {
		t.Errorf("%s returns %v, then %v", what, first, second)
	}
	all := memory(append(append([]any{argument}, first...), second...)...)
	own := len(memory(argument))
	for i := own; i < len(all); i++ {
		for j := range i {
			if all[i].from < all[j].to && all[j].from < all[i].to {
				t.Errorf("%s: a result shares memory", what)
				return
			}
		}
	}
}

// spare is a list with memory beyond its end.
func spare[T any](l []T) []T {
	var zero T
	return append(append([]T{}, l...), zero, zero, zero)[:len(l)]
}

// spareSystem is the system with such lists.
func spareSystem(s api.System) api.System {
	s.Bays, s.Boards = spare(s.Bays), spare(s.Boards)
	return s
}

// R3 and R4 of the functions with systems.
func TestRulesOfSystems(t *testing.T) {
	d := dice()
	for range 50 {
		s := spareSystem(someSystem(d, 1+d.Intn(3)))
		length := d.Intn(40)
		c, _ := layout.Close(s, length)
		c = api.Closing{Bays: spare(c.Bays), Boards: spare(c.Boards)}
		both := []any{s, c}
		watch(t, "CheckSystem", s, func() []any { return []any{layout.CheckSystem(s)} })
		watch(t, "Unit", s, func() []any { n, e := layout.Unit(s); return []any{n, e} })
		watch(t, "Length", both, func() []any { n, e := layout.Length(s, c); return []any{n, e} })
		watch(t, "CostOf", both, func() []any { n, e := layout.CostOf(s, c); return []any{n, e} })
		watch(t, "CheckClosing", both, func() []any { return []any{layout.CheckClosing(s, length, c)} })
		watch(t, "Close", s, func() []any { n, e := layout.Close(s, length); return []any{n, e} })
		watch(t, "Table", s, func() []any { n, e := layout.Table(s, length); return []any{n, e} })
		watch(t, "Gaps", s, func() []any { n, e := layout.Gaps(s, length); return []any{n, e} })
		watch(t, "Ways", s, func() []any { n, e := layout.Ways(s, length); return []any{n, e} })
		watch(t, "PrintSystem", s, func() []any { n, e := layout.PrintSystem(s); return []any{n, e} })
		text, _ := layout.PrintSystem(s)
		watch(t, "ParseSystem", text, func() []any { n, e := layout.ParseSystem(text); return []any{n, e} })
	}
}

// R3 and R4 of the functions with buildings and layouts.
func TestRulesOfLayouts(t *testing.T) {
	next := someRound(t, 1)
	for range 50 {
		r := next()
		b, s := r.b, spareSystem(r.s)
		b.Storeys = []api.Storey{{Outline: spare(b.Storeys[0].Outline)}}
		l, p, _ := layout.Best(b, s)
		l = api.Layout{Corners: spare(l.Corners), Runs: spare(l.Runs)}
		for i, r := range l.Runs {
			l.Runs[i].Close = api.Closing{Bays: spare(r.Close.Bays), Boards: spare(r.Close.Boards)}
		}
		p = api.Proof{Table: spare(p.Table), Ring: [2][][2]int{spare(p.Ring[0]), spare(p.Ring[1])}}
		all := []any{b, s, l, p}
		watch(t, "CheckRing", all, func() []any { return []any{layout.CheckRing(b, s)} })
		watch(t, "RunLength", all, func() []any { n, e := layout.RunLength(b, s, 0, 1, 0); return []any{n, e} })
		watch(t, "RunStart", all, func() []any { n, e := layout.RunStart(b, s, 0, 1); return []any{n, e} })
		watch(t, "Blocked", all, func() []any { n, e := layout.Blocked(b, s); return []any{n, e} })
		watch(t, "Best", all, func() []any { m, q, e := layout.Best(b, s); return []any{m, q, e} })
		watch(t, "CheckLayout", all, func() []any { return []any{layout.CheckLayout(b, s, l)} })
		watch(t, "Total", all, func() []any { n, e := layout.Total(b, s, l); return []any{n, e} })
		watch(t, "CheckProof", all, func() []any { return []any{layout.CheckProof(b, s, l, p)} })
		watch(t, "Boxes", all, func() []any { n, e := layout.Boxes(b, s, l); return []any{n, e} })
		watch(t, "Lifts", all, func() []any { n, e := layout.Lifts(b, s); return []any{n, e} })
		watch(t, "Grid", all, func() []any { n, e := layout.Grid(b, s, l, 0); return []any{n, e} })
		watch(t, "Scaffold", all, func() []any { n, e := layout.Scaffold(b, s, l); return []any{n, e} })
	}
}

// P1 and R2: any numbers may be anywhere.
func TestRulesOfAnything(t *testing.T) {
	d := dice()
	values := []int{math.MinInt, -10001, -1, 0, 1, 2, 3, 500, 4000, 10000, 10001, 1000000, math.MaxInt}
	any := func() int { return values[d.Intn(len(values))] }
	list := func() []int {
		out := make([]int, d.Intn(5))
		for i := range out {
			out[i] = any()
		}
		return out
	}
	change := func(places ...*int) {
		if d.Intn(2) == 0 {
			*places[d.Intn(len(places))] = any()
		}
	}
	for range 20000 {
		b, s := theL(), roundSystem()
		change(&s.Bays[0], &s.Bays[1], &s.Boards[0], &s.Width, &s.Gap, &s.Lift, &b.Roof, &b.Storeys[0].Floor, &b.Storeys[0].Outline[0].X)
		c := api.Closing{Bays: list(), Boards: list()}
		n := any()
		layout.CheckClosing(s, n, c)
		layout.CostOf(s, c)
		layout.Length(s, c)
		layout.Close(s, n)
		layout.Ways(s, n)
		layout.Gaps(s, n)
		layout.RunLength(b, s, any(), any(), any())
		layout.RunStart(b, s, any(), any())
		layout.Blocked(b, s)
		l, p, e := layout.Best(b, s)
		if e != api.OK {
			continue
		}
		change(&l.Corners[0], &l.Runs[1].Facade, &l.Runs[1].Start.X, &l.Runs[2].Length)
		change(&p.Table[0], &p.Table[1], &p.Table[2], &p.Ring[0][0][0], &p.Ring[0][1][0], &p.Ring[1][6][1])
		layout.CheckProof(b, s, l, p)
		layout.Scaffold(b, s, l)
		layout.Boxes(b, s, l)
		layout.Grid(b, s, l, any())
	}
}
