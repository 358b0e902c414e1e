package exact_test

import (
	"fmt"
	"reflect"
	"testing"

	"putlog/api"
	"putlog/exact"
)

// A part is the memory of the elements of a slice.
type part struct{ from, to uintptr }

// memory lists the parts of all slices within the values.
func memory(values ...any) []part {
	var out []part
	for _, v := range values {
		out = append(out, memoryOf(reflect.ValueOf(v))...)
	}
	return out
}

func memoryOf(v reflect.Value) []part {
	var out []part
	switch v.Kind() {
	case reflect.Slice:
		if v.Len() > 0 {
			out = append(out, part{v.Pointer(), v.Pointer() + uintptr(v.Len())*v.Type().Elem().Size()})
		}
		for i := range v.Len() {
			out = append(out, memoryOf(v.Index(i))...)
		}
	case reflect.Struct:
		for i := range v.NumField() {
			out = append(out, memoryOf(v.Field(i))...)
		}
	}
	return out
}

// wantOwnMemory checks that the results share no memory with the arguments, nor with each other.
func wantOwnMemory(t *testing.T, what string, arguments, results []any) {
	t.Helper()
	own := memory(results...)
	all := append(memory(arguments...), own...)
	for i, x := range own {
		for j, y := range all {
			if j != len(all)-len(own)+i && x.from < y.to && y.from < x.to {
				t.Errorf("%s: a result shares memory", what)
				return
			}
		}
	}
}

// rulesWatch runs a call twice, and checks that it leaves its arguments as they are, keeps nothing of
// them, shares no memory, and returns the same again (R3 and R4).
func rulesWatch(t *testing.T, what string, arguments []any, call func() []any) {
	t.Helper()
	before := allOf(arguments)
	first, second := call(), call()
	if allOf(arguments) != before {
		t.Errorf("%s writes into its arguments", what)
	}
	if fmt.Sprint(first...) != fmt.Sprint(second...) {
		t.Errorf("%s returns %v, then %v", what, first, second)
	}
	wantOwnMemory(t, what, arguments, append(first, second...))
}

// allOf shows values, and what lies in the memory of their slices beyond the ends.
func allOf(values []any) string {
	out := ""
	for _, v := range values {
		out += allOfValue(reflect.ValueOf(v)) + ";"
	}
	return out
}

func allOfValue(v reflect.Value) string {
	out := ""
	switch v.Kind() {
	case reflect.Slice:
		out += fmt.Sprint(v.Len())
		v = v.Slice(0, v.Cap())
		for i := range v.Len() {
			out += "," + allOfValue(v.Index(i))
		}
	case reflect.Struct:
		for i := range v.NumField() {
			out += "." + allOfValue(v.Field(i))
		}
	default:
		out = fmt.Sprint(v.Interface())
	}
	return out
}

func two(a, b any) []any { return []any{a, b} }

// R3 and R4 of the functions with integers and fractions.
func TestRulesOfNumbers(t *testing.T) {
	d := dice()
	for i := range 300 {
		x, y := someInt(d, 1+i%4), someInt(d, 1+i%3)
		if i%10 == 0 {
			y = api.Int{Neg: i%20 == 0, Limbs: []uint32{uint32(i / 10 % 3), 0}}
		}
		ints := two(x, y)
		rulesWatch(t, "Sum", ints, func() []any { return two(exact.Sum(x, y), exact.Sum(y, x)) })
		rulesWatch(t, "Diff", ints, func() []any { return two(exact.Diff(x, y), exact.Diff(y, x)) })
		rulesWatch(t, "Prod", ints, func() []any { return two(exact.Prod(x, y), 0) })
		rulesWatch(t, "Divide", ints, func() []any { q, r, e := exact.Divide(x, y); return []any{q, r, e} })
		a, b := api.Rat{Num: x, Den: y}, someRat(d, 2)
		rats := two(a, b)
		rulesWatch(t, "Normal", rats, func() []any { return two(exact.Normal(a), exact.Normal(b)) })
		rulesWatch(t, "Add", rats, func() []any { return two(exact.Add(a, b), exact.Add(b, api.Rat{})) })
		rulesWatch(t, "Sub", rats, func() []any { return two(exact.Sub(a, b), exact.Sub(b, api.Rat{})) })
		rulesWatch(t, "Mul", rats, func() []any { return two(exact.Mul(a, b), exact.Mul(b, r(1, 1))) })
		rulesWatch(t, "Quo", rats, func() []any { q, e := exact.Quo(a, b); return two(q, e) })
		rulesWatch(t, "Cmp", rats, func() []any { return two(exact.Cmp(a, b), exact.Format(a)) })
		rulesWatch(t, "Floor", rats, func() []any { return two(exact.Floor(a), exact.Floor(b)) })
		rulesWatch(t, "CmpRoots", rats, func() []any { c, e := exact.CmpRoots(a, i, b, 3); return two(c, e) })
	}
	rulesWatch(t, "Of", nil, func() []any { return two(exact.Of(7), exact.Whole(1)) })
	rulesWatch(t, "Ratio", nil, func() []any { x, e := exact.Ratio(1, 1); return two(x, e) })
	rulesWatch(t, "RootBelow", nil, func() []any { x, e := exact.RootBelow(4, 2); return two(x, e) })
	rulesWatch(t, "Parse", nil, func() []any { x, e := exact.Parse("1/7"); return two(x, e) })
}

// R3 and R4 of the functions with matrices.
func TestRulesOfMatrices(t *testing.T) {
	d := dice()
	for i := range 300 {
		n := 1 + i%5
		m := someMatrix(d, n, 1+d.Intn(5), 2, 2)
		b := someList(d, n, 2, 2)
		if i%2 == 0 { // not in normal form
			m[0][0] = someRat(d, 2)
			b[n-1] = someRat(d, 2)
		}
		s, _ := exact.Solve(copyRows(m), copyList(b))
		rulesWatch(t, "Rank", two(m, 0), func() []any { k, e := exact.Rank(m); return two(k, e) })
		rulesWatch(t, "Kernel", two(m, 0), func() []any { k, e := exact.Kernel(m); return two(k, e) })
		rulesWatch(t, "Solve", two(m, b), func() []any { s, e := exact.Solve(m, b); return two(s, e) })
		rulesWatch(t, "CheckSolution", []any{m, b, s}, func() []any { return two(exact.CheckSolution(m, b, s), 0) })
		q := someMatrix(d, n, n, 2, 2)
		q[n-1][0] = someRat(d, 2)
		rulesWatch(t, "Minors", two(q, 0), func() []any { l, e := exact.Minors(q); return two(l, e) })
		rulesWatch(t, "Definite", two(q, 0), func() []any { l, e := exact.Definite(q); return two(l, e) })
		p := someProgram(d, 1+d.Intn(5), n)
		p.A[0][0], p.B[n-1] = someRat(d, 1), someRat(d, 1)
		o, _ := exact.Optimize(api.Program{A: copyRows(p.A), B: copyList(p.B), C: copyList(p.C)})
		rulesWatch(t, "Optimize", two(p, 0), func() []any { o, e := exact.Optimize(p); return two(o, e) })
		rulesWatch(t, "CheckOptimum", two(p, o), func() []any { return two(exact.CheckOptimum(p, o), 0) })
	}
	// Where a matrix is empty, and where one value stands in one memory.
	one := r(1, 1)
	row := []api.Rat{one, one, one}
	m := [][]api.Rat{row, row}
	rulesWatch(t, "Kernel of shared rows", two(one, 0), func() []any { k, e := exact.Kernel(m); return two(k, e) })
	rulesWatch(t, "Solve of shared rows", two(one, 0), func() []any { s, e := exact.Solve(m, row[:2]); return two(s, e) })
	p := api.Program{A: m, B: row[:2], C: row}
	rulesWatch(t, "Optimize of shared rows", two(one, 0), func() []any { o, e := exact.Optimize(p); return two(o, e) })
	want(t, "the shared row", row, 0, list(1, 1, 1), 0)
}

// P1 and R9: certificates and systems are read by value, and odd ones do not panic.
func TestRulesOfOddValues(t *testing.T) {
	odd := []api.Rat{{}, {Num: limbs(true)}, {Den: limbs(true, 0, 0)}, {Num: limbs(false, 0), Den: limbs(true, 7, 0)}}
	m := [][]api.Rat{odd, odd}
	rank, e := exact.Rank(m)
	want(t, "Rank", rank, e, 0, api.OK)
	basis, e := exact.Kernel(m)
	want(t, "Kernel", basis, e, unit(4), api.OK)
	s, e := exact.Solve(m, odd[:2])
	want(t, "Solve", s, e, api.Solution{X: list(0, 0, 0, 0), Kernel: unit(4)}, api.OK)
	want(t, "CheckSolution", 0, exact.CheckSolution(m, odd[2:], api.Solution{X: odd, Kernel: unit(4)}), 0, api.OK)
	l, e := exact.Minors([][]api.Rat{odd, odd, odd, odd})
	want(t, "Minors", l, e, list(0, 0, 0, 0), api.OK)
	is, e := exact.Definite([][]api.Rat{odd[:2], odd[1:3]})
	want(t, "Definite", is, e, false, api.OK)
	o := wantOptimum(t, api.Program{A: m, B: odd[:2], C: odd})
	want(t, "Optimize", []any{o.Kind, o.Value}, 0, []any{0, r(0, 1)}, 0)
	for kind := -2; kind < 5; kind++ {
		for _, l := range [][]api.Rat{nil, odd, odd[:2]} {
			for _, k := range [][]api.Rat{nil, odd, odd[:2]} {
				exact.CheckOptimum(api.Program{A: m, B: odd[:2], C: odd}, api.Optimum{Kind: kind, X: l, Y: k, Ray: k})
				exact.CheckSolution(m, odd[:2], api.Solution{Kind: kind, X: l, Kernel: [][]api.Rat{k, l}, Proof: k})
			}
		}
	}
}
