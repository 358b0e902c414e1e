package building_test

import (
	"fmt"
	"reflect"
	"testing"

	"putlog/api"
	"putlog/building"
)

// A part is the memory of the elements of a slice.
type part struct{ from, to uintptr }

// memory lists the parts of all slices within the values.
func memory(values ...any) []part {
	var out []part
	for _, v := range values {
		out = append(out, memoryOf(reflect.ValueOf(v))...)
	}
	return out
}

func memoryOf(v reflect.Value) []part {
	var out []part
	switch v.Kind() {
	case reflect.Slice:
		if v.Cap() > 0 {
			out = append(out, part{v.Pointer(), v.Pointer() + uintptr(v.Cap())*v.Type().Elem().Size()})
		}
		for i := range v.Len() {
			out = append(out, memoryOf(v.Index(i))...)
		}
	case reflect.Struct:
		for i := range v.NumField() {
			out = append(out, memoryOf(v.Field(i))...)
		}
	}
	return out
}

// shown shows values, and what lies in the memory of their slices beyond the ends.
func shown(v reflect.Value) string {
	out := ""
	switch v.Kind() {
	case reflect.Slice:
		out += fmt.Sprint(v.Len())
		v = v.Slice(0, v.Cap())
		for i := range v.Len() {
			out += "," + shown(v.Index(i))
		}
	case reflect.Struct:
		for i := range v.NumField() {
			out += "." + shown(v.Field(i))
		}
	default:
		out = fmt.Sprint(v.Interface())
	}
	return out
}

// watch runs a call twice, and checks that it leaves its argument as it is, shares no memory, and returns
// the same again (R3 and R4).
func watch(t *testing.T, what string, argument any, call func() []any) {
	t.Helper()
	before := shown(reflect.ValueOf(argument))
	first, second := call(), call()
	if shown(reflect.ValueOf(argument)) != before {
		t.Errorf("%s writes into its argument", what)
	}
	if !same(first, second) {
		t.Errorf("%s returns %v, then %v", what, first, second)
	}
	all := memory(append(append([]any{argument}, first...), second...)...)
	own := len(memory(argument))
	for i := own; i < len(all); i++ {
		for j := range i {
			if all[i].from < all[j].to && all[j].from < all[i].to {
				t.Errorf("%s: a result shares memory", what)
				return
			}
		}
	}
}

// spare is a list with memory beyond its end.
func spare(l []api.Point) []api.Point {
	return append(append([]api.Point{}, l...), points(7, 7, 8, 8, 9, 9)...)[:len(l)]
}

// R3 and R4 of the functions with outlines.
func TestRulesOfOutlines(t *testing.T) {
	d := dice()
	for range 50 {
		_, l := someShape(d, 1+d.Intn(5), 1+d.Intn(5), 20)
		_, k := someShape(d, 1+d.Intn(5), 1+d.Intn(5), 20)
		l, k = spare(l), spare(k)
		p := api.Point{X: d.Intn(20), Y: d.Intn(20)}
		watch(t, "CheckOutline", l, func() []any { return []any{building.CheckOutline(l)} })
		watch(t, "Area", l, func() []any { n, e := building.Area(l); return []any{n, e} })
		watch(t, "Walls", l, func() []any { w, e := building.Walls(l); return []any{w, e} })
		watch(t, "Corners", l, func() []any { c, e := building.Corners(l); return []any{c, e} })
		watch(t, "Where", l, func() []any { n, e := building.Where(l, p); return []any{n, e} })
		watch(t, "Covers", [][]api.Point{l, k}, func() []any { is, e := building.Covers(l, k); return []any{is, e} })
		watch(t, "Distance", l, func() []any { n, e := building.Distance(l, p); return []any{n, e} })
		for by := range 3 {
			watch(t, "Offset", l, func() []any { out, e := building.Offset(l, by); return []any{out, e} })
		}
	}
}

// R3 and R4 of the functions with buildings.
func TestRulesOfBuildings(t *testing.T) {
	d := dice()
	for range 50 {
		b := someTower(d).building
		for i, s := range b.Storeys {
			b.Storeys[i].Outline = spare(s.Outline)
		}
		b.Openings = append(b.Openings, opening(0, 0, 0, 0, 0, 0))[:len(b.Openings)]
		b.Boxes = append(b.Boxes, api.Box{})[:len(b.Boxes)]
		x := someBox(d, 16)
		watch(t, "Check", b, func() []any { return []any{building.Check(b)} })
		watch(t, "Top", b, func() []any { n, e := building.Top(b, 0); return []any{n, e} })
		watch(t, "Volume", b, func() []any { n, e := building.Volume(b); return []any{n, e} })
		watch(t, "Blocks", b, func() []any { is, e := building.Blocks(b, x); return []any{is, e} })
		watch(t, "Forbidden", b, func() []any { n, e := building.Forbidden(b, x); return []any{n, e} })
		watch(t, "Depth", b, func() []any { n, e := building.Depth(b, 0, 0, b.Roof-1); return []any{n, e} })
		watch(t, "Windows", b, func() []any { w, e := building.Windows(b, 0); return []any{w, e} })
		watch(t, "OpeningAt", b, func() []any { n, e := building.OpeningAt(b, api.Node{}); return []any{n, e} })
		watch(t, "Move", b, func() []any { c, e := building.Move(b, 1, 2); return []any{c, e} })
		watch(t, "Move by 0", b, func() []any { c, e := building.Move(b, 0, 0); return []any{c, e} })
		watch(t, "Turn", b, func() []any { c, e := building.Turn(b); return []any{c, e} })
		watch(t, "Print", b, func() []any { s, e := building.Print(b); return []any{s, e} })
		s, _ := building.Print(b)
		watch(t, "Parse", s, func() []any { c, n, e := building.Parse(s); return []any{c, n, e} })
	}
}

// R9: outlines may share memory with each other.
func TestRulesOfSharedOutlines(t *testing.T) {
	l := theL()
	b := api.Building{Name: "b", Roof: 9, Storeys: []api.Storey{{Outline: l}, {Floor: 3, Outline: l}}}
	c, e := building.Move(b, 1, 0)
	wantError(t, "Move", e, api.OK)
	parts := memory(c)
	for i, x := range parts {
		for _, y := range parts[:i] {
			if x == y {
				t.Error("two outlines of the result share memory")
			}
		}
	}
	covers, e := building.Covers(l, l)
	want(t, "Covers", covers, e, true, api.OK)
}
