package statics_test

import (
	"fmt"
	"math"
	"math/rand"
	"reflect"
	"testing"

	"putlog/api"
	"putlog/statics"
)

// A stretch is the memory of the elements of a slice.
type stretch struct{ from, to uintptr }

// memory lists the stretches of all slices within the values.
func memory(values ...any) []stretch {
	var out []stretch
	for _, v := range values {
		out = append(out, memoryOf(reflect.ValueOf(v))...)
	}
	return out
}

func memoryOf(v reflect.Value) []stretch {
	var out []stretch
	switch v.Kind() {
	case reflect.Interface:
		return memoryOf(v.Elem())
	case reflect.Slice:
		if v.Cap() > 0 {
			out = append(out, stretch{v.Pointer(), v.Pointer() + uintptr(v.Cap())*v.Type().Elem().Size()})
		}
		for i := range v.Len() {
			out = append(out, memoryOf(v.Index(i))...)
		}
	case reflect.Struct:
		for i := range v.NumField() {
			out = append(out, memoryOf(v.Field(i))...)
		}
	}
	return out
}

// shown shows values, and what lies in the memory of their slices beyond the ends.
func shown(v reflect.Value) string {
	out := ""
	switch v.Kind() {
	case reflect.Interface:
		return shown(v.Elem())
	case reflect.Slice:
		out += fmt.Sprint(v.Len())
		v = v.Slice(0, v.Cap())
		for i := range v.Len() {
			out += "," + shown(v.Index(i))
		}
	case reflect.Struct:
		for i := range v.NumField() {
			out += "." + shown(v.Field(i))
		}
	default:
		out = fmt.Sprint(v.Interface())
	}
	return out
}

// watch runs a call twice, and checks that it leaves its argument as it is, shares no memory, and returns
// the same again (R3 and R4).
func watch(t *testing.T, what string, argument any, call func() []any) {
	t.Helper()
	before := shown(reflect.ValueOf(argument))
	first, second := call(), call()
	if shown(reflect.ValueOf(argument)) != before {
		t.Errorf("%s writes into its argument", what)
	}
	if !same(first, second) {
		t.Errorf("%s returns %v, then %v", what, first, second)
	}
	all := memory(append(append([]any{argument}, first...), second...)...)
	own := len(memory(argument))
	for i := own; i < len(all); i++ {
		for j := range i {
			if all[i].from < all[j].to && all[j].from < all[i].to {
				t.Errorf("%s: a result shares memory", what)
				return
			}
		}
	}
}

// spare is a list with memory beyond its end.
func spare[T any](l []T) []T {
	var zero T
	return append(append([]T{}, l...), zero, zero, zero)[:len(l)]
}

// spareFrame is a frame whose lists have memory beyond their ends.
func spareFrame(f api.Frame) api.Frame {
	return api.Frame{Nodes: spare(f.Nodes), Bars: spare(f.Bars), Supports: spare(f.Supports)}
}

// R3 and R4 of the functions with a frame and loads.
func TestRulesOfFrames(t *testing.T) {
	d := dice()
	for i := range 150 {
		f := someFrame(d, 5)
		if i%2 == 0 {
			f = firmFrame(d, 4)
		}
		f = spareFrame(f)
		l := someLoads(d, f, 3)
		if i%3 == 0 {
			l = carriedLoads(d, f)
		}
		l = spare(l)
		x := spare(oddly(d, ratsOf(someForces(d, f))))
		reply, _ := statics.Carry(f, l)
		reply = api.Reply{Kind: reply.Kind, Forces: spare(reply.Forces), Motion: spare(reply.Motion)}
		all := []any{f, l, x, reply}
		watch(t, "Check", all, func() []any { return []any{statics.Check(f)} })
		watch(t, "CheckLoads", all, func() []any { return []any{statics.CheckLoads(f, l)} })
		watch(t, "Matrix", all, func() []any { m, e := statics.Matrix(f); return []any{m, e} })
		watch(t, "Count", all, func() []any { n, e := statics.Count(f); return []any{n, e} })
		watch(t, "Stresses", all, func() []any { m, e := statics.Stresses(f); return []any{m, e} })
		watch(t, "Motions", all, func() []any { m, e := statics.Motions(f); return []any{m, e} })
		watch(t, "Carry", all, func() []any { r, e := statics.Carry(f, l); return []any{r, e} })
		watch(t, "CheckReply", all, func() []any { return []any{statics.CheckReply(f, l, reply)} })
		watch(t, "Forces", all, func() []any { y, e := statics.Forces(f, l); return []any{y, e} })
		watch(t, "CheckForces", all, func() []any { return []any{statics.CheckForces(f, l, x)} })
		watch(t, "Displace", all, func() []any { u, y, e := statics.Displace(f, l); return []any{u, y, e} })
		watch(t, "Energy", all, func() []any { y, e := statics.Energy(f, x); return []any{y, e} })
		watch(t, "Stiffness", all, func() []any { m, e := statics.Stiffness(f, x); return []any{m, e} })
		watch(t, "Stable", all, func() []any { is, e := statics.Stable(f, x); return []any{is, e} })
	}
}

// R3 and R4 of the functions with tables, limits and cases.
func TestRulesOfLimitsAndCases(t *testing.T) {
	d := dice()
	for range 150 {
		f := spareFrame(someFrame(d, 5))
		l := spare(carriedLoads(d, f))
		x := spare(oddly(d, ratsOf(someForces(d, f))))
		limits := spare(someLimits(d, len(f.Bars)))
		table := spare(someTable(d, 1+d.Intn(4)))
		at := odd(d, int64(d.Intn(60)-30), 7)
		strengths := spare(make([]int, len(f.Bars)))
		cases := spare(someCases(d, f, 3))
		for i, l := range cases {
			cases[i] = spare(l)
		}
		c, _ := statics.LimitLoad(f, l, limits)
		c = api.Collapse{Factor: c.Factor, Forces: spare(c.Forces), Motion: spare(c.Motion)}
		watch(t, "Interpolate", []any{table, at}, func() []any { y, e := statics.Interpolate(table, at); return []any{y, e} })
		watch(t, "Interpolate at a step", table, func() []any { y, e := statics.Interpolate(table, table[0].At); return []any{y, e} })
		all := []any{f, l, x, limits, table, strengths}
		watch(t, "Limits", all, func() []any { y, e := statics.Limits(f, strengths, table); return []any{y, e} })
		watch(t, "Strong", all, func() []any { y, e := statics.Strong(f, x, limits); return []any{y, e} })
		watch(t, "LimitLoad", all, func() []any { y, e := statics.LimitLoad(f, l, limits); return []any{y, e} })
		watch(t, "CheckCollapse", []any{f, l, limits, c}, func() []any { return []any{statics.CheckCollapse(f, l, limits, c)} })
		watch(t, "Influence", []any{f, cases}, func() []any { y, e := statics.Influence(f, cases, 0); return []any{y, e} })
		watch(t, "Worst", []any{f, cases}, func() []any { y, e := statics.Worst(f, cases); return []any{y, e} })
		factors := spare([]int{1, -2, 3})
		watch(t, "Gather", []any{cases, factors}, func() []any { y, e := statics.Gather(cases, factors); return []any{y, e} })
	}
	watch(t, "Limit", 0, func() []any { y, e := statics.Limit(25, 10); return []any{y, e} })
	f := spareFrame(bigFrame(d, 100))
	decks, faces, winds := spare([]api.Deck{deck(1, 0, 1, 2, 3)}), spare([]api.Face{face(1, 0, 0, 1, 0, 1, 2, 3)}), spare(theWinds())
	watch(t, "DeckLoads", []any{f, decks}, func() []any { y, e := statics.DeckLoads(f, decks, 1500); return []any{y, e} })
	watch(t, "WindLoads", []any{f, faces, winds}, func() []any { y, e := statics.WindLoads(f, faces, winds); return []any{y, e} })
}

// anything is a chance of odd numbers and fractions.
type anything struct{ d *rand.Rand }

func (a anything) number() int {
	l := []int{math.MinInt, -1000001, -100, -1, 0, 0, 1, 2, 3, 4, 100, 1000000, 1000001, api.MaxSquare, math.MaxInt}
	return l[a.d.Intn(len(l))]
}

func (a anything) fraction() api.Rat {
	l := []api.Rat{{}, r(0, 1), r(1, 1), r(-1, 2), r(7, 3), {Num: api.Int{Neg: true}}, {Den: api.Int{Neg: true, Limbs: []uint32{0}}},
		{Num: api.Int{Limbs: []uint32{3, 0, 0}}, Den: api.Int{Neg: true, Limbs: []uint32{5, 0}}}, odd(a.d, 5, 1)}
	return l[a.d.Intn(len(l))]
}

func (a anything) fractions(around int) []api.Rat {
	out := []api.Rat{}
	for range around + []int{0, 0, 0, 0, 1, -1}[a.d.Intn(6)] {
		out = append(out, a.fraction())
	}
	return out
}

func (a anything) loads() []api.Load {
	out := []api.Load{}
	for range a.d.Intn(4) {
		l := load(a.d.Intn(3), 1, 2, 3)
		if a.d.Intn(4) == 0 {
			l = load(a.number(), a.number(), a.number(), a.number())
		}
		out = append(out, l)
	}
	return out
}

// frame is the bracket, perhaps with something odd in it.
func (a anything) frame() api.Frame {
	f := theBracket()
	switch a.d.Intn(12) {
	case 0:
		f.Nodes[a.d.Intn(3)] = node(a.number(), a.number(), a.number())
	case 1:
		f.Bars[a.d.Intn(2)] = api.Bar{A: a.number(), B: a.number(), Flex: a.fraction()}
	case 2:
		f.Supports[a.d.Intn(7)] = api.Support{Node: a.number(), Axis: a.number(), Flex: a.fraction()}
	case 3:
		f.Bars[a.d.Intn(2)].Flex = a.fraction()
	case 4:
		f.Supports[a.d.Intn(7)].Flex = a.fraction()
	case 5:
		f = withoutSupport(f, a.d.Intn(7))
	case 6:
		f = api.Frame{}
	}
	return f
}

// P1 and R2: any values may be anywhere. Beside an error all other results are zero (R1).
func TestRulesOfAnything(t *testing.T) {
	a := anything{dice()}
	zero := func(what string, e api.Errno, results ...any) {
		for _, result := range results {
			if e != api.OK && !reflect.ValueOf(result).IsZero() {
				t.Errorf("%s: %v beside error %d", what, result, e)
			}
		}
	}
	for range 10000 {
		f, l := a.frame(), a.loads()
		x := a.fractions(elements(f))
		limits := []api.Range{}
		for range len(f.Bars) {
			limits = append(limits, limit(a.fraction(), a.fraction()))
		}
		reply, e := statics.Carry(f, l)
		zero("Carry", e, reply)
		statics.CheckReply(f, l, api.Reply{Kind: a.d.Intn(4) - 1, Forces: x})
		statics.CheckReply(f, l, api.Reply{Kind: a.d.Intn(4) - 1, Motion: a.fractions(places(f))})
		y, e := statics.Forces(f, l)
		zero("Forces", e, y)
		statics.CheckForces(f, l, x)
		u, y, e := statics.Displace(f, l)
		zero("Displace", e, u, y)
		energy, e := statics.Energy(f, x)
		zero("Energy", e, energy)
		n, e := statics.Strong(f, x, limits)
		zero("Strong", e, n)
		c, e := statics.LimitLoad(f, l, limits)
		zero("LimitLoad", e, c)
		statics.CheckCollapse(f, l, limits, api.Collapse{Factor: a.fraction(), Forces: x, Motion: a.fractions(places(f))})
		m, e := statics.Stiffness(f, x)
		zero("Stiffness", e, m)
		is, e := statics.Stable(f, x)
		zero("Stable", e, is)
		table := []api.Step{step(a.fraction(), a.fraction()), step(a.fraction(), a.fraction())}
		v, e := statics.Interpolate(table, a.fraction())
		zero("Interpolate", e, v)
		v, e = statics.Limit(a.number(), a.number())
		zero("Limit", e, v)
		ranges, e := statics.Limits(f, []int{a.number(), 5}, table)
		zero("Limits", e, ranges)
		cases := [][]api.Load{l, a.loads()}
		y, e = statics.Influence(f, cases, a.number())
		zero("Influence", e, y)
		worst, e := statics.Worst(f, cases)
		zero("Worst", e, worst)
		out, e := statics.Gather(cases, []int{a.number(), a.number()})
		zero("Gather", e, out)
		out, e = statics.DeckLoads(f, []api.Deck{deck(a.number(), 0, 1, 2, a.number())}, a.number())
		zero("DeckLoads", e, out)
		out, e = statics.WindLoads(f, []api.Face{face(a.number(), a.number(), a.number(), a.number(), 0, 1, 2, 0)}, []api.Wind{{Height: a.number(), Pascals: a.number()}, {Height: a.number(), Pascals: a.number()}})
		zero("WindLoads", e, out)
	}
}
